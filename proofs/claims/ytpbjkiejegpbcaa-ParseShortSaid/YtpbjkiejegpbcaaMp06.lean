/-
  PsEld, PsLgst: put together.
-/
import Derived.Test.YtpbjkiejegpbcaaMp03
import Derived.Test.YtpbjkiejegpbcaaMp05
import Derived.Deep.RegionHeld3
set_option linter.unusedVariables false
set_option linter.unusedSimpArgs false
/-
  The program's finder: the elder distances' longest copy.
-/
namespace Go.Proofs.Ytpbjkiejegpbcaa
open Go.RowKit
theorem best2_take {g : Nat → Nat} {j n : Nat} (hn : n = g j) (h2 : 2 ≤ n) (hl : (best2 g j).2 < n) : best2 g (j + 1) = (j, n) := by
  subst hn
  exact if_pos ⟨h2, hl⟩
theorem best2_skip {g : Nat → Nat} {j n : Nat} (hn : n = g j) (h : ¬ (2 ≤ n ∧ (best2 g j).2 < n)) : best2 g (j + 1) = best2 g j := by
  subst hn
  exact if_neg h
section
variable {w : World} {g : Nat} {A : Option Addr} {n c dict : Nat} {b : List UInt8} {s : Ps} {lv av : Value}
set_option maxRecDepth 100000 in
set_option maxHeartbeats 8000000 in
theorem pelder_any (h : Fq w g A n c dict b s lv av) :
    Calls Try.prog 30 #[.pointer (some ⟨g, 0, none⟩)] w fun x w' => x = .returned (.tuple #[.int .i64 (((eld2 b dict n s).1 : Nat) : Int), .int .i64 (((eld2 b dict n s).2 : Nat) : Int)]) ∧ ∃ k, w.drewN k = w' := by
  have c3 := h.c3
  have c4 := h.c4
  have c5 := h.c5
  have c6 := h.c6
  have KC := Lib.hid (fun (k d : Nat) (hd : d < 4294967296) => pcopied_any (d := d) (h.drewN k) hd)
  have HLIT := Lib.hid h.lit
  obtain ⟨gg, hg⟩ : ∃ gg : Nat → Nat, gg = fun h => cpN b dict n s.i (s.rep h) := ⟨_, rfl⟩
  have h0 : cpN b dict n s.i s.r0 = gg 0 := by rw [hg]; rfl
  have h1 : cpN b dict n s.i s.r1 = gg 1 := by rw [hg]; rfl
  have h2 : cpN b dict n s.i s.r2 = gg 2 := by rw [hg]; rfl
  have h3 : cpN b dict n s.i s.r3 = gg 3 := by rw [hg]; rfl
  have HG := Lib.hid (And.intro h0 (And.intro h1 (And.intro h2 h3)))
  have he : eld2 b dict n s = best2 gg 4 := by rw [hg]; rfl
  rw [he]
  have HN := Lib.hid (fun j => show gg j ≤ 273 by rw [hg]; have := cpN_le b dict n s.i (s.rep j); simp only; omega)
  clear h hg h0 h1 h2 h3 he
  go_enter Try.func30, Try.ntmps30
  go_wp2_with fail
  go_loopw [4, 5, 13] (fun v4 v5 v13 wr => ∃ j k : Nat, j ≤ 4 ∧ v13 = .int .i64 (j : Int) ∧ v4 = .int .i64 (((best2 gg j).1 : Nat) : Int) ∧ v5 = .int .i64 (((best2 gg j).2 : Nat) : Int) ∧ wr = w.drewN k) (fun _ _ v _ => 4 - (intOf v).toNat)
  case atStart => exact ⟨0, 0, by omega, rfl, rfl, rfl, rfl⟩
  case round =>
    obtain ⟨j, k, hj, rfl, rfl, rfl, rfl⟩ := hrel
    have hc : j = 0 ∨ j = 1 ∨ j = 2 ∨ j = 3 ∨ j = 4 := by omega
    rcases hc with rfl | rfl | rfl | rfl | rfl
    · have K := KC.out k s.r0 HLIT.out.r0
      rw [HG.out.1] at K
      have K := Lib.hid K
      have e1 : IntKind.i64.wrap (s.r0 : Int) = (s.r0 : Int) := IntWalk.i64_in _ (by have := HLIT.out.r0; omega)
      have HB := Lib.hid (HN.out 0)
      obtain ⟨x, hx⟩ : ∃ x, x = gg 0 := ⟨_, rfl⟩
      obtain ⟨a, ha⟩ : ∃ a, a = (best2 gg 0).1 := ⟨_, rfl⟩
      obtain ⟨m, hm⟩ : ∃ m, m = (best2 gg 0).2 := ⟨_, rfl⟩
      rw [← hx] at K HB
      rw [← ha, ← hm]
      have e2 : IntKind.i64.wrap ((0 : Int) + 1) = 1 := by decide
      have hix : ∀ W : World, (Instr.index 55 (.agg #[.int .u32 (s.r0 : Int), .int .u32 (s.r1 : Int), .int .u32 (s.r2 : Int), .int .u32 (s.r3 : Int)]) (.int .i64 0)).run Try.prog W = .ok (.int .u32 (s.r0 : Int)) W := fun _ => by kernel_rfl
      clear hj
      by_cases g1 : 2 ≤ x
      · by_cases g2 : m < x
        · have HR := Lib.hid (best2_take hx g1 (by omega))
          have i1 : (2 : Int) ≤ (x : Int) := by omega
          have i2 : (m : Int) < (x : Int) := by omega
          clear hx ha hm g1 g2
          go_wp2_with fail
          refine K.out.mono ?_
          rintro e w1 ⟨rfl, k1, rfl⟩
          go_wp2_with fail
          go_roundw
          case rel => exact ⟨1, k + k1, by omega, by first | rfl | go_num, by rw [HR.out]; first | done | rfl, by rw [HR.out]; first | done | rfl, by first | rfl | exact World.drewN_drewN⟩
          case measure => simp [intOf]
        · have HR := Lib.hid (show (best2 gg 1).1 = a ∧ (best2 gg 1).2 = m by rw [best2_skip hx (fun h => by omega)]; exact ⟨ha.symm, hm.symm⟩)
          have i1 : (2 : Int) ≤ (x : Int) := by omega
          have i2 : ¬ (m : Int) < (x : Int) := by omega
          clear hx ha hm g1 g2
          go_wp2_with fail
          refine K.out.mono ?_
          rintro e w1 ⟨rfl, k1, rfl⟩
          go_wp2_with fail
          go_roundw
          case rel => exact ⟨1, k + k1, by omega, by first | rfl | go_num, by rw [HR.out.1], by rw [HR.out.2], by first | rfl | exact World.drewN_drewN⟩
          case measure => simp [intOf]
      · have HR := Lib.hid (show (best2 gg 1).1 = a ∧ (best2 gg 1).2 = m by rw [best2_skip hx (fun h => by omega)]; exact ⟨ha.symm, hm.symm⟩)
        have i1 : ¬ (2 : Int) ≤ (x : Int) := by omega
        clear hx ha hm g1
        go_wp2_with fail
        refine K.out.mono ?_
        rintro e w1 ⟨rfl, k1, rfl⟩
        go_wp2_with fail
        go_roundw
        case rel => exact ⟨1, k + k1, by omega, by first | rfl | go_num, by rw [HR.out.1], by rw [HR.out.2], by first | rfl | exact World.drewN_drewN⟩
        case measure => simp [intOf]
    · have K := KC.out k s.r1 HLIT.out.r1
      rw [HG.out.2.1] at K
      have K := Lib.hid K
      have e1 : IntKind.i64.wrap (s.r1 : Int) = (s.r1 : Int) := IntWalk.i64_in _ (by have := HLIT.out.r1; omega)
      have HB := Lib.hid (HN.out 1)
      obtain ⟨x, hx⟩ : ∃ x, x = gg 1 := ⟨_, rfl⟩
      obtain ⟨a, ha⟩ : ∃ a, a = (best2 gg 1).1 := ⟨_, rfl⟩
      obtain ⟨m, hm⟩ : ∃ m, m = (best2 gg 1).2 := ⟨_, rfl⟩
      rw [← hx] at K HB
      rw [← ha, ← hm]
      have e2 : IntKind.i64.wrap ((1 : Int) + 1) = 2 := by decide
      have hix : ∀ W : World, (Instr.index 55 (.agg #[.int .u32 (s.r0 : Int), .int .u32 (s.r1 : Int), .int .u32 (s.r2 : Int), .int .u32 (s.r3 : Int)]) (.int .i64 1)).run Try.prog W = .ok (.int .u32 (s.r1 : Int)) W := fun _ => by kernel_rfl
      clear hj
      by_cases g1 : 2 ≤ x
      · by_cases g2 : m < x
        · have HR := Lib.hid (best2_take hx g1 (by omega))
          have i1 : (2 : Int) ≤ (x : Int) := by omega
          have i2 : (m : Int) < (x : Int) := by omega
          clear hx ha hm g1 g2
          go_wp2_with fail
          refine K.out.mono ?_
          rintro e w1 ⟨rfl, k1, rfl⟩
          go_wp2_with fail
          go_roundw
          case rel => exact ⟨2, k + k1, by omega, by first | rfl | go_num, by rw [HR.out]; first | done | rfl, by rw [HR.out]; first | done | rfl, by first | rfl | exact World.drewN_drewN⟩
          case measure => simp [intOf]
        · have HR := Lib.hid (show (best2 gg 2).1 = a ∧ (best2 gg 2).2 = m by rw [best2_skip hx (fun h => by omega)]; exact ⟨ha.symm, hm.symm⟩)
          have i1 : (2 : Int) ≤ (x : Int) := by omega
          have i2 : ¬ (m : Int) < (x : Int) := by omega
          clear hx ha hm g1 g2
          go_wp2_with fail
          refine K.out.mono ?_
          rintro e w1 ⟨rfl, k1, rfl⟩
          go_wp2_with fail
          go_roundw
          case rel => exact ⟨2, k + k1, by omega, by first | rfl | go_num, by rw [HR.out.1], by rw [HR.out.2], by first | rfl | exact World.drewN_drewN⟩
          case measure => simp [intOf]
      · have HR := Lib.hid (show (best2 gg 2).1 = a ∧ (best2 gg 2).2 = m by rw [best2_skip hx (fun h => by omega)]; exact ⟨ha.symm, hm.symm⟩)
        have i1 : ¬ (2 : Int) ≤ (x : Int) := by omega
        clear hx ha hm g1
        go_wp2_with fail
        refine K.out.mono ?_
        rintro e w1 ⟨rfl, k1, rfl⟩
        go_wp2_with fail
        go_roundw
        case rel => exact ⟨2, k + k1, by omega, by first | rfl | go_num, by rw [HR.out.1], by rw [HR.out.2], by first | rfl | exact World.drewN_drewN⟩
        case measure => simp [intOf]
    · have K := KC.out k s.r2 HLIT.out.r2
      rw [HG.out.2.2.1] at K
      have K := Lib.hid K
      have e1 : IntKind.i64.wrap (s.r2 : Int) = (s.r2 : Int) := IntWalk.i64_in _ (by have := HLIT.out.r2; omega)
      have HB := Lib.hid (HN.out 2)
      obtain ⟨x, hx⟩ : ∃ x, x = gg 2 := ⟨_, rfl⟩
      obtain ⟨a, ha⟩ : ∃ a, a = (best2 gg 2).1 := ⟨_, rfl⟩
      obtain ⟨m, hm⟩ : ∃ m, m = (best2 gg 2).2 := ⟨_, rfl⟩
      rw [← hx] at K HB
      rw [← ha, ← hm]
      have e2 : IntKind.i64.wrap ((2 : Int) + 1) = 3 := by decide
      have hix : ∀ W : World, (Instr.index 55 (.agg #[.int .u32 (s.r0 : Int), .int .u32 (s.r1 : Int), .int .u32 (s.r2 : Int), .int .u32 (s.r3 : Int)]) (.int .i64 2)).run Try.prog W = .ok (.int .u32 (s.r2 : Int)) W := fun _ => by kernel_rfl
      clear hj
      by_cases g1 : 2 ≤ x
      · by_cases g2 : m < x
        · have HR := Lib.hid (best2_take hx g1 (by omega))
          have i1 : (2 : Int) ≤ (x : Int) := by omega
          have i2 : (m : Int) < (x : Int) := by omega
          clear hx ha hm g1 g2
          go_wp2_with fail
          refine K.out.mono ?_
          rintro e w1 ⟨rfl, k1, rfl⟩
          go_wp2_with fail
          go_roundw
          case rel => exact ⟨3, k + k1, by omega, by first | rfl | go_num, by rw [HR.out]; first | done | rfl, by rw [HR.out]; first | done | rfl, by first | rfl | exact World.drewN_drewN⟩
          case measure => simp [intOf]
        · have HR := Lib.hid (show (best2 gg 3).1 = a ∧ (best2 gg 3).2 = m by rw [best2_skip hx (fun h => by omega)]; exact ⟨ha.symm, hm.symm⟩)
          have i1 : (2 : Int) ≤ (x : Int) := by omega
          have i2 : ¬ (m : Int) < (x : Int) := by omega
          clear hx ha hm g1 g2
          go_wp2_with fail
          refine K.out.mono ?_
          rintro e w1 ⟨rfl, k1, rfl⟩
          go_wp2_with fail
          go_roundw
          case rel => exact ⟨3, k + k1, by omega, by first | rfl | go_num, by rw [HR.out.1], by rw [HR.out.2], by first | rfl | exact World.drewN_drewN⟩
          case measure => simp [intOf]
      · have HR := Lib.hid (show (best2 gg 3).1 = a ∧ (best2 gg 3).2 = m by rw [best2_skip hx (fun h => by omega)]; exact ⟨ha.symm, hm.symm⟩)
        have i1 : ¬ (2 : Int) ≤ (x : Int) := by omega
        clear hx ha hm g1
        go_wp2_with fail
        refine K.out.mono ?_
        rintro e w1 ⟨rfl, k1, rfl⟩
        go_wp2_with fail
        go_roundw
        case rel => exact ⟨3, k + k1, by omega, by first | rfl | go_num, by rw [HR.out.1], by rw [HR.out.2], by first | rfl | exact World.drewN_drewN⟩
        case measure => simp [intOf]
    · have K := KC.out k s.r3 HLIT.out.r3
      rw [HG.out.2.2.2] at K
      have K := Lib.hid K
      have e1 : IntKind.i64.wrap (s.r3 : Int) = (s.r3 : Int) := IntWalk.i64_in _ (by have := HLIT.out.r3; omega)
      have HB := Lib.hid (HN.out 3)
      obtain ⟨x, hx⟩ : ∃ x, x = gg 3 := ⟨_, rfl⟩
      obtain ⟨a, ha⟩ : ∃ a, a = (best2 gg 3).1 := ⟨_, rfl⟩
      obtain ⟨m, hm⟩ : ∃ m, m = (best2 gg 3).2 := ⟨_, rfl⟩
      rw [← hx] at K HB
      rw [← ha, ← hm]
      have e2 : IntKind.i64.wrap ((3 : Int) + 1) = 4 := by decide
      have hix : ∀ W : World, (Instr.index 55 (.agg #[.int .u32 (s.r0 : Int), .int .u32 (s.r1 : Int), .int .u32 (s.r2 : Int), .int .u32 (s.r3 : Int)]) (.int .i64 3)).run Try.prog W = .ok (.int .u32 (s.r3 : Int)) W := fun _ => by kernel_rfl
      clear hj
      by_cases g1 : 2 ≤ x
      · by_cases g2 : m < x
        · have HR := Lib.hid (best2_take hx g1 (by omega))
          have i1 : (2 : Int) ≤ (x : Int) := by omega
          have i2 : (m : Int) < (x : Int) := by omega
          clear hx ha hm g1 g2
          go_wp2_with fail
          refine K.out.mono ?_
          rintro e w1 ⟨rfl, k1, rfl⟩
          go_wp2_with fail
          go_roundw
          case rel => exact ⟨4, k + k1, by omega, by first | rfl | go_num, by rw [HR.out]; first | done | rfl, by rw [HR.out]; first | done | rfl, by first | rfl | exact World.drewN_drewN⟩
          case measure => simp [intOf]
        · have HR := Lib.hid (show (best2 gg 4).1 = a ∧ (best2 gg 4).2 = m by rw [best2_skip hx (fun h => by omega)]; exact ⟨ha.symm, hm.symm⟩)
          have i1 : (2 : Int) ≤ (x : Int) := by omega
          have i2 : ¬ (m : Int) < (x : Int) := by omega
          clear hx ha hm g1 g2
          go_wp2_with fail
          refine K.out.mono ?_
          rintro e w1 ⟨rfl, k1, rfl⟩
          go_wp2_with fail
          go_roundw
          case rel => exact ⟨4, k + k1, by omega, by first | rfl | go_num, by rw [HR.out.1], by rw [HR.out.2], by first | rfl | exact World.drewN_drewN⟩
          case measure => simp [intOf]
      · have HR := Lib.hid (show (best2 gg 4).1 = a ∧ (best2 gg 4).2 = m by rw [best2_skip hx (fun h => by omega)]; exact ⟨ha.symm, hm.symm⟩)
        have i1 : ¬ (2 : Int) ≤ (x : Int) := by omega
        clear hx ha hm g1
        go_wp2_with fail
        refine K.out.mono ?_
        rintro e w1 ⟨rfl, k1, rfl⟩
        go_wp2_with fail
        go_roundw
        case rel => exact ⟨4, k + k1, by omega, by first | rfl | go_num, by rw [HR.out.1], by rw [HR.out.2], by first | rfl | exact World.drewN_drewN⟩
        case measure => simp [intOf]
    · clear KC HG HN HLIT hj
      go_wp2_with fail
      go_ret2
      exact ⟨rfl, k, rfl⟩
end
end Go.Proofs.Ytpbjkiejegpbcaa

/-
  The program's finder: the longest copy by the lists of places.
-/
namespace Go.Proofs.Ytpbjkiejegpbcaa
open Go.RowKit

/-- the finder, its lists made or not -/
def Fd (w : World) (g : Nat) (G : Nat → Prop) (A : Option Addr) (n c dict : Nat) (b : List UInt8) (s : Ps) (cnt : Nat) : Prop :=
  (Fu w g G A n c dict b s ∧ cnt = 0) ∨ ∃ (sz ql qa ca : Nat) (cs : Array Value), Fm w g G A n c dict b s cnt sz ql qa ca cs
def FdPost (w : World) (g : Nat) (G : Nat → Prop) (A : Option Addr) (n c dict : Nat) (b : List UInt8) (s : Ps) (w' : World) : Prop :=
  ∃ (G' : Nat → Prop) (cnt : Nat), Fd w' g G' A n c dict b s cnt ∧ cnt ≤ s.i ∧ (∀ i, G' i → G i ∨ w.heap.size ≤ i) ∧ Only G w w'
def LonPost (w : World) (g : Nat) (G : Nat → Prop) (A : Option Addr) (n c dict : Nat) (b : List UInt8) (s : Ps) (r : Nat × Nat) (x : Ending) (w' : World) : Prop :=
  x = .returned (.tuple #[.int .i64 (r.1 : Int), .int .i64 (r.2 : Int)]) ∧ FdPost w g G A n c dict b s w'
section
variable {w : World} {g : Nat} {G : Nat → Prop} {A : Option Addr} {n c dict : Nat} {b : List UInt8} {s : Ps} {cnt : Nat}
theorem Fu.drewN (h : Fu w g G A n c dict b s) (k : Nat) : Fu (w.drewN k) g G A n c dict b s := ⟨h.fq.drewN k, h.gg, h.lt, h.ap⟩
theorem Fd.drewN (h : Fd w g G A n c dict b s cnt) (k : Nat) : Fd (w.drewN k) g G A n c dict b s cnt := by
  rcases h with ⟨h, hc⟩ | ⟨sz, ql, qa, ca, cs, h⟩
  · exact .inl ⟨h.drewN k, hc⟩
  · exact .inr ⟨sz, ql, qa, ca, cs, h.drewN k⟩
theorem Fd.fq (h : Fd w g G A n c dict b s cnt) : ∃ lv av, Fq w g A n c dict b s lv av := by
  rcases h with ⟨h, _⟩ | ⟨sz, ql, qa, ca, cs, h⟩
  · exact ⟨_, _, h.fq⟩
  · exact ⟨_, _, h.fq⟩
theorem Fd.lt (h : Fd w g G A n c dict b s cnt) : ∀ i, G i → i < w.heap.size := by
  rcases h with ⟨h, _⟩ | ⟨sz, ql, qa, ca, cs, h⟩
  · exact h.lt
  · exact h.lt
theorem Fd.same (h : Fd w g G A n c dict b s cnt) (hc : cnt ≤ s.i) (k : Nat) : FdPost w g G A n c dict b s (w.drewN k) :=
  ⟨G, cnt, h.drewN k, hc, fun i hi => .inl hi, (Only.refl _ w).drewN k⟩
theorem padd_any {e : Nat} (h : Fd w g G A n c dict b s cnt) (hc : cnt ≤ e) (he : e < n) :
    Calls Try.prog 56 #[.pointer (some ⟨g, 7, none⟩), .int .i64 (e : Int)] w (AddPost w g G A n c dict b s e) := by
  rcases h with ⟨h, _⟩ | ⟨sz, ql, qa, ca, cs, h⟩
  · exact padd_new h he
  · exact padd_made h hc he
end

/-! ### the loop's numbers -/
section
variable {b : List UInt8} {dict n at_ l m sz : Nat} {x : Nat × Nat}
/-- what is known when the places from m on were looked at -/
structure Lon (b : List UInt8) (dict n at_ l sz m : Nat) (x : Nat × Nat) : Prop where
  is : wor (fun d => cpN b dict n at_ d) l (at_ - m) = x
  m1 : m ≤ at_
  m2 : at_ - m ≤ dict
theorem Lon.start (b : List UInt8) (dict n at_ l sz : Nat) : Lon b dict n at_ l sz at_ (0, 0) := ⟨by rw [Nat.sub_self]; exact wor_zero _ _, Nat.le_refl _, by omega⟩
theorem Lon.or (h : Lon b dict n at_ l sz m x) : x = (0, 0) ∨ l ≤ x.2 := by rw [← h.is]; exact wor_or _ _ _
theorem Lon.ge (h : Lon b dict n at_ l sz m x) (h2 : 2 ≤ l) : 2 ≤ leastOf l x := least_ge h2 (h.or.imp (fun e => by rw [e]) id)
theorem Lon.le (h : Lon b dict n at_ l sz m x) (hl : l ≤ 1000) : leastOf l x ≤ 1000 := by
  have : x.2 ≤ 273 := by
    rw [← h.is]
    unfold wor
    split
    · by_cases h0 : 0 < (best (fun d => cpN b dict n at_ d) (at_ - m)).2
      · have := (best_is _ _ h0).2.1
        rw [← this]
        have := cpN_le b dict n at_ (best (fun d => cpN b dict n at_ d) (at_ - m)).1
        omega
      · omega
    · exact Nat.zero_le _
  unfold leastOf
  split <;> omega
/-- distances of places of another list aren't worth it -/
theorem Lon.other (h2 : 2 ≤ l) (h : Lon b dict n at_ l sz m x) {d : Nat} (hd : d < at_) (hh : hashP b sz (at_ - 1 - d) ≠ hashP b sz at_) : cpN b dict n at_ d < leastOf l x := by
  have hg := h.ge h2
  by_cases hc : 2 ≤ cpN b dict n at_ d
  · obtain ⟨_, _, e0, e1⟩ := cp_short hc
    exact absurd (hash_same e0 e1).symm hh
  · omega
theorem Lon.end_most (h : Lon b dict n at_ l sz m x) (h2 : 2 ≤ l) (hm : ¬ leastOf l x ≤ min 273 (n - at_)) : wor (fun d => cpN b dict n at_ d) l (min at_ dict) = x := by
  have := h.m1
  have := h.m2
  rw [wor_to (n := at_ - m) (by omega) (by omega) (fun d _ _ => by rw [h.is]; have := cpN_le b dict n at_ d; omega)]
  exact h.is
theorem Lon.end_none (h : Lon b dict n at_ l sz m x) (h2 : 2 ≤ l) (hp : (lastN (hashP b sz) (hashP b sz at_) m : Int) - 1 < max ((at_ : Int) - (dict : Int)) 0) : wor (fun d => cpN b dict n at_ d) l (min at_ dict) = x := by
  have h1 := h.m1
  have h3 := h.m2
  rw [wor_to (n := at_ - m) (by omega) (by omega) (fun d hd1 hd2 => by
    rw [h.is]
    refine h.other h2 (by omega) ?_
    cases hq : lastN (hashP b sz) (hashP b sz at_) m with
    | zero => exact lastN_none hq _ (by omega)
    | succ q =>
      obtain ⟨_, _, h5⟩ := lastN_some hq
      rw [hq] at hp
      exact h5 _ (by omega) (by omega))]
  exact h.is
/-- up to the place that is looked at -/
theorem Lon.upto (h : Lon b dict n at_ l sz m x) (h2 : 2 ≤ l) {q : Nat} (hq : lastN (hashP b sz) (hashP b sz at_) m = q + 1) : wor (fun d => cpN b dict n at_ d) l (at_ - 1 - q) = x := by
  have h1 := h.m1
  obtain ⟨h3, _, h5⟩ := lastN_some hq
  rw [wor_to (n := at_ - m) (by omega) (by omega) (fun d hd1 hd2 => by rw [h.is]; exact h.other h2 (by omega) (h5 _ (by omega) (by omega)))]
  exact h.is
theorem Lon.skip (h : Lon b dict n at_ l sz m x) (h2 : 2 ≤ l) {q : Nat} (hq : lastN (hashP b sz) (hashP b sz at_) m = q + 1) (ho : max ((at_ : Int) - (dict : Int)) 0 ≤ (q : Int)) (hg : cpN b dict n at_ (at_ - 1 - q) < leastOf l x) : Lon b dict n at_ l sz q x := by
  have h1 := h.m1
  obtain ⟨h3, _, _⟩ := lastN_some hq
  refine ⟨?_, by omega, by omega⟩
  have := wor_skip (g := fun d => cpN b dict n at_ d) (l0 := l) (n := at_ - 1 - q) (by omega) (by rw [h.upto h2 hq]; exact hg)
  rw [h.upto h2 hq] at this
  rwa [show at_ - 1 - q + 1 = at_ - q by omega] at this
theorem Lon.take (h : Lon b dict n at_ l sz m x) (h2 : 2 ≤ l) {q : Nat} (hq : lastN (hashP b sz) (hashP b sz at_) m = q + 1) (ho : max ((at_ : Int) - (dict : Int)) 0 ≤ (q : Int)) (hg : leastOf l x ≤ cpN b dict n at_ (at_ - 1 - q)) : Lon b dict n at_ l sz q (at_ - 1 - q, cpN b dict n at_ (at_ - 1 - q)) := by
  have h1 := h.m1
  obtain ⟨h3, _, _⟩ := lastN_some hq
  refine ⟨?_, by omega, by omega⟩
  have := wor_take (g := fun d => cpN b dict n at_ d) (l0 := l) (n := at_ - 1 - q) (by omega) (by rw [h.upto h2 hq]; exact hg)
  rwa [show at_ - 1 - q + 1 = at_ - q by omega] at this
end
end Go.Proofs.Ytpbjkiejegpbcaa
