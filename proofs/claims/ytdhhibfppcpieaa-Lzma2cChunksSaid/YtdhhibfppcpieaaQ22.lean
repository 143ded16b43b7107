/-
  PsEld, PsLgst, PsLong2: put together.
-/
import Derived.Test.YtdhhibfppcpieaaQ20
import Derived.Test.YtdhhibfppcpieaaQ21
import Derived.Deep.RegionHeld3
set_option linter.unusedVariables false
set_option linter.unusedSimpArgs false
/-
  The program's finder: the elder distances' longest copy.
-/
namespace Go.Proofs.Ytdhhibfppcpieaa
open Go.RowKit
theorem best2_take {g : Nat → Nat} {j n : Nat} (hn : n = g j) (h2 : 2 ≤ n) (hl : (best2 g j).2 < n) : best2 g (j + 1) = (j, n) := by
  subst hn
  exact if_pos ⟨h2, hl⟩
theorem best2_skip {g : Nat → Nat} {j n : Nat} (hn : n = g j) (h : ¬ (2 ≤ n ∧ (best2 g j).2 < n)) : best2 g (j + 1) = best2 g j := by
  subst hn
  exact if_neg h
section
variable {w : World} {g : Nat} {A : Option Addr} {n c dict : Nat} {b : List UInt8} {s : Ps} {lv av : Value}
set_option maxRecDepth 100000 in
set_option maxHeartbeats 8000000 in
theorem pelder_any (h : Fq w g A n c dict b s lv av) :
    Calls Try.prog 22 #[.pointer (some ⟨g, 0, none⟩)] w fun x w' => x = .returned (.tuple #[.int .i64 (((eld2 b dict n s).1 : Nat) : Int), .int .i64 (((eld2 b dict n s).2 : Nat) : Int)]) ∧ ∃ k, w.drewN k = w' := by
  have c3 := h.c3
  have c4 := h.c4
  have c5 := h.c5
  have c6 := h.c6
  have KC := Lib.hid (fun (k d : Nat) (hd : d < 4294967296) => pcopied_any (d := d) (h.drewN k) hd)
  have HLIT := Lib.hid h.lit
  obtain ⟨gg, hg⟩ : ∃ gg : Nat → Nat, gg = fun h => cpN b dict n s.i (s.rep h) := ⟨_, rfl⟩
  have h0 : cpN b dict n s.i s.r0 = gg 0 := by rw [hg]; rfl
  have h1 : cpN b dict n s.i s.r1 = gg 1 := by rw [hg]; rfl
  have h2 : cpN b dict n s.i s.r2 = gg 2 := by rw [hg]; rfl
  have h3 : cpN b dict n s.i s.r3 = gg 3 := by rw [hg]; rfl
  have HG := Lib.hid (And.intro h0 (And.intro h1 (And.intro h2 h3)))
  have he : eld2 b dict n s = best2 gg 4 := by rw [hg]; rfl
  rw [he]
  have HN := Lib.hid (fun j => show gg j ≤ 273 by rw [hg]; have := cpN_le b dict n s.i (s.rep j); simp only; omega)
  clear h hg h0 h1 h2 h3 he
  go_enter Try.func22, Try.ntmps22
  go_wp2_with fail
  go_loopw [4, 5, 13] (fun v4 v5 v13 wr => ∃ j k : Nat, j ≤ 4 ∧ v13 = .int .i64 (j : Int) ∧ v4 = .int .i64 (((best2 gg j).1 : Nat) : Int) ∧ v5 = .int .i64 (((best2 gg j).2 : Nat) : Int) ∧ wr = w.drewN k) (fun _ _ v _ => 4 - (intOf v).toNat)
  case atStart => exact ⟨0, 0, by omega, rfl, rfl, rfl, rfl⟩
  case round =>
    obtain ⟨j, k, hj, rfl, rfl, rfl, rfl⟩ := hrel
    have hc : j = 0 ∨ j = 1 ∨ j = 2 ∨ j = 3 ∨ j = 4 := by omega
    rcases hc with rfl | rfl | rfl | rfl | rfl
    · have K := KC.out k s.r0 HLIT.out.r0
      rw [HG.out.1] at K
      have K := Lib.hid K
      have e1 : IntKind.i64.wrap (s.r0 : Int) = (s.r0 : Int) := IntWalk.i64_in _ (by have := HLIT.out.r0; omega)
      have HB := Lib.hid (HN.out 0)
      obtain ⟨x, hx⟩ : ∃ x, x = gg 0 := ⟨_, rfl⟩
      obtain ⟨a, ha⟩ : ∃ a, a = (best2 gg 0).1 := ⟨_, rfl⟩
      obtain ⟨m, hm⟩ : ∃ m, m = (best2 gg 0).2 := ⟨_, rfl⟩
      rw [← hx] at K HB
      rw [← ha, ← hm]
      have e2 : IntKind.i64.wrap ((0 : Int) + 1) = 1 := by decide
      have hix : ∀ W : World, (Instr.index 49 (.agg #[.int .u32 (s.r0 : Int), .int .u32 (s.r1 : Int), .int .u32 (s.r2 : Int), .int .u32 (s.r3 : Int)]) (.int .i64 0)).run Try.prog W = .ok (.int .u32 (s.r0 : Int)) W := fun _ => by kernel_rfl
      clear hj
      by_cases g1 : 2 ≤ x
      · by_cases g2 : m < x
        · have HR := Lib.hid (best2_take hx g1 (by omega))
          have i1 : (2 : Int) ≤ (x : Int) := by omega
          have i2 : (m : Int) < (x : Int) := by omega
          clear hx ha hm g1 g2
          go_wp2_with fail
          refine K.out.mono ?_
          rintro e w1 ⟨rfl, k1, rfl⟩
          go_wp2_with fail
          go_roundw
          case rel => exact ⟨1, k + k1, by omega, by first | rfl | go_num, by rw [HR.out]; first | done | rfl, by rw [HR.out]; first | done | rfl, by first | rfl | exact World.drewN_drewN⟩
          case measure => simp [intOf]
        · have HR := Lib.hid (show (best2 gg 1).1 = a ∧ (best2 gg 1).2 = m by rw [best2_skip hx (fun h => by omega)]; exact ⟨ha.symm, hm.symm⟩)
          have i1 : (2 : Int) ≤ (x : Int) := by omega
          have i2 : ¬ (m : Int) < (x : Int) := by omega
          clear hx ha hm g1 g2
          go_wp2_with fail
          refine K.out.mono ?_
          rintro e w1 ⟨rfl, k1, rfl⟩
          go_wp2_with fail
          go_roundw
          case rel => exact ⟨1, k + k1, by omega, by first | rfl | go_num, by rw [HR.out.1], by rw [HR.out.2], by first | rfl | exact World.drewN_drewN⟩
          case measure => simp [intOf]
      · have HR := Lib.hid (show (best2 gg 1).1 = a ∧ (best2 gg 1).2 = m by rw [best2_skip hx (fun h => by omega)]; exact ⟨ha.symm, hm.symm⟩)
        have i1 : ¬ (2 : Int) ≤ (x : Int) := by omega
        clear hx ha hm g1
        go_wp2_with fail
        refine K.out.mono ?_
        rintro e w1 ⟨rfl, k1, rfl⟩
        go_wp2_with fail
        go_roundw
        case rel => exact ⟨1, k + k1, by omega, by first | rfl | go_num, by rw [HR.out.1], by rw [HR.out.2], by first | rfl | exact World.drewN_drewN⟩
        case measure => simp [intOf]
    · have K := KC.out k s.r1 HLIT.out.r1
      rw [HG.out.2.1] at K
      have K := Lib.hid K
      have e1 : IntKind.i64.wrap (s.r1 : Int) = (s.r1 : Int) := IntWalk.i64_in _ (by have := HLIT.out.r1; omega)
      have HB := Lib.hid (HN.out 1)
      obtain ⟨x, hx⟩ : ∃ x, x = gg 1 := ⟨_, rfl⟩
      obtain ⟨a, ha⟩ : ∃ a, a = (best2 gg 1).1 := ⟨_, rfl⟩
      obtain ⟨m, hm⟩ : ∃ m, m = (best2 gg 1).2 := ⟨_, rfl⟩
      rw [← hx] at K HB
      rw [← ha, ← hm]
      have e2 : IntKind.i64.wrap ((1 : Int) + 1) = 2 := by decide
      have hix : ∀ W : World, (Instr.index 49 (.agg #[.int .u32 (s.r0 : Int), .int .u32 (s.r1 : Int), .int .u32 (s.r2 : Int), .int .u32 (s.r3 : Int)]) (.int .i64 1)).run Try.prog W = .ok (.int .u32 (s.r1 : Int)) W := fun _ => by kernel_rfl
      clear hj
      by_cases g1 : 2 ≤ x
      · by_cases g2 : m < x
        · have HR := Lib.hid (best2_take hx g1 (by omega))
          have i1 : (2 : Int) ≤ (x : Int) := by omega
          have i2 : (m : Int) < (x : Int) := by omega
          clear hx ha hm g1 g2
          go_wp2_with fail
          refine K.out.mono ?_
          rintro e w1 ⟨rfl, k1, rfl⟩
          go_wp2_with fail
          go_roundw
          case rel => exact ⟨2, k + k1, by omega, by first | rfl | go_num, by rw [HR.out]; first | done | rfl, by rw [HR.out]; first | done | rfl, by first | rfl | exact World.drewN_drewN⟩
          case measure => simp [intOf]
        · have HR := Lib.hid (show (best2 gg 2).1 = a ∧ (best2 gg 2).2 = m by rw [best2_skip hx (fun h => by omega)]; exact ⟨ha.symm, hm.symm⟩)
          have i1 : (2 : Int) ≤ (x : Int) := by omega
          have i2 : ¬ (m : Int) < (x : Int) := by omega
          clear hx ha hm g1 g2
          go_wp2_with fail
          refine K.out.mono ?_
          rintro e w1 ⟨rfl, k1, rfl⟩
          go_wp2_with fail
          go_roundw
          case rel => exact ⟨2, k + k1, by omega, by first | rfl | go_num, by rw [HR.out.1], by rw [HR.out.2], by first | rfl | exact World.drewN_drewN⟩
          case measure => simp [intOf]
      · have HR := Lib.hid (show (best2 gg 2).1 = a ∧ (best2 gg 2).2 = m by rw [best2_skip hx (fun h => by omega)]; exact ⟨ha.symm, hm.symm⟩)
        have i1 : ¬ (2 : Int) ≤ (x : Int) := by omega
        clear hx ha hm g1
        go_wp2_with fail
        refine K.out.mono ?_
        rintro e w1 ⟨rfl, k1, rfl⟩
        go_wp2_with fail
        go_roundw
        case rel => exact ⟨2, k + k1, by omega, by first | rfl | go_num, by rw [HR.out.1], by rw [HR.out.2], by first | rfl | exact World.drewN_drewN⟩
        case measure => simp [intOf]
    · have K := KC.out k s.r2 HLIT.out.r2
      rw [HG.out.2.2.1] at K
      have K := Lib.hid K
      have e1 : IntKind.i64.wrap (s.r2 : Int) = (s.r2 : Int) := IntWalk.i64_in _ (by have := HLIT.out.r2; omega)
      have HB := Lib.hid (HN.out 2)
      obtain ⟨x, hx⟩ : ∃ x, x = gg 2 := ⟨_, rfl⟩
      obtain ⟨a, ha⟩ : ∃ a, a = (best2 gg 2).1 := ⟨_, rfl⟩
      obtain ⟨m, hm⟩ : ∃ m, m = (best2 gg 2).2 := ⟨_, rfl⟩
      rw [← hx] at K HB
      rw [← ha, ← hm]
      have e2 : IntKind.i64.wrap ((2 : Int) + 1) = 3 := by decide
      have hix : ∀ W : World, (Instr.index 49 (.agg #[.int .u32 (s.r0 : Int), .int .u32 (s.r1 : Int), .int .u32 (s.r2 : Int), .int .u32 (s.r3 : Int)]) (.int .i64 2)).run Try.prog W = .ok (.int .u32 (s.r2 : Int)) W := fun _ => by kernel_rfl
      clear hj
      by_cases g1 : 2 ≤ x
      · by_cases g2 : m < x
        · have HR := Lib.hid (best2_take hx g1 (by omega))
          have i1 : (2 : Int) ≤ (x : Int) := by omega
          have i2 : (m : Int) < (x : Int) := by omega
          clear hx ha hm g1 g2
          go_wp2_with fail
          refine K.out.mono ?_
          rintro e w1 ⟨rfl, k1, rfl⟩
          go_wp2_with fail
          go_roundw
          case rel => exact ⟨3, k + k1, by omega, by first | rfl | go_num, by rw [HR.out]; first | done | rfl, by rw [HR.out]; first | done | rfl, by first | rfl | exact World.drewN_drewN⟩
          case measure => simp [intOf]
        · have HR := Lib.hid (show (best2 gg 3).1 = a ∧ (best2 gg 3).2 = m by rw [best2_skip hx (fun h => by omega)]; exact ⟨ha.symm, hm.symm⟩)
          have i1 : (2 : Int) ≤ (x : Int) := by omega
          have i2 : ¬ (m : Int) < (x : Int) := by omega
          clear hx ha hm g1 g2
          go_wp2_with fail
          refine K.out.mono ?_
          rintro e w1 ⟨rfl, k1, rfl⟩
          go_wp2_with fail
          go_roundw
          case rel => exact ⟨3, k + k1, by omega, by first | rfl | go_num, by rw [HR.out.1], by rw [HR.out.2], by first | rfl | exact World.drewN_drewN⟩
          case measure => simp [intOf]
      · have HR := Lib.hid (show (best2 gg 3).1 = a ∧ (best2 gg 3).2 = m by rw [best2_skip hx (fun h => by omega)]; exact ⟨ha.symm, hm.symm⟩)
        have i1 : ¬ (2 : Int) ≤ (x : Int) := by omega
        clear hx ha hm g1
        go_wp2_with fail
        refine K.out.mono ?_
        rintro e w1 ⟨rfl, k1, rfl⟩
        go_wp2_with fail
        go_roundw
        case rel => exact ⟨3, k + k1, by omega, by first | rfl | go_num, by rw [HR.out.1], by rw [HR.out.2], by first | rfl | exact World.drewN_drewN⟩
        case measure => simp [intOf]
    · have K := KC.out k s.r3 HLIT.out.r3
      rw [HG.out.2.2.2] at K
      have K := Lib.hid K
      have e1 : IntKind.i64.wrap (s.r3 : Int) = (s.r3 : Int) := IntWalk.i64_in _ (by have := HLIT.out.r3; omega)
      have HB := Lib.hid (HN.out 3)
      obtain ⟨x, hx⟩ : ∃ x, x = gg 3 := ⟨_, rfl⟩
      obtain ⟨a, ha⟩ : ∃ a, a = (best2 gg 3).1 := ⟨_, rfl⟩
      obtain ⟨m, hm⟩ : ∃ m, m = (best2 gg 3).2 := ⟨_, rfl⟩
      rw [← hx] at K HB
      rw [← ha, ← hm]
      have e2 : IntKind.i64.wrap ((3 : Int) + 1) = 4 := by decide
      have hix : ∀ W : World, (Instr.index 49 (.agg #[.int .u32 (s.r0 : Int), .int .u32 (s.r1 : Int), .int .u32 (s.r2 : Int), .int .u32 (s.r3 : Int)]) (.int .i64 3)).run Try.prog W = .ok (.int .u32 (s.r3 : Int)) W := fun _ => by kernel_rfl
      clear hj
      by_cases g1 : 2 ≤ x
      · by_cases g2 : m < x
        · have HR := Lib.hid (best2_take hx g1 (by omega))
          have i1 : (2 : Int) ≤ (x : Int) := by omega
          have i2 : (m : Int) < (x : Int) := by omega
          clear hx ha hm g1 g2
          go_wp2_with fail
          refine K.out.mono ?_
          rintro e w1 ⟨rfl, k1, rfl⟩
          go_wp2_with fail
          go_roundw
          case rel => exact ⟨4, k + k1, by omega, by first | rfl | go_num, by rw [HR.out]; first | done | rfl, by rw [HR.out]; first | done | rfl, by first | rfl | exact World.drewN_drewN⟩
          case measure => simp [intOf]
        · have HR := Lib.hid (show (best2 gg 4).1 = a ∧ (best2 gg 4).2 = m by rw [best2_skip hx (fun h => by omega)]; exact ⟨ha.symm, hm.symm⟩)
          have i1 : (2 : Int) ≤ (x : Int) := by omega
          have i2 : ¬ (m : Int) < (x : Int) := by omega
          clear hx ha hm g1 g2
          go_wp2_with fail
          refine K.out.mono ?_
          rintro e w1 ⟨rfl, k1, rfl⟩
          go_wp2_with fail
          go_roundw
          case rel => exact ⟨4, k + k1, by omega, by first | rfl | go_num, by rw [HR.out.1], by rw [HR.out.2], by first | rfl | exact World.drewN_drewN⟩
          case measure => simp [intOf]
      · have HR := Lib.hid (show (best2 gg 4).1 = a ∧ (best2 gg 4).2 = m by rw [best2_skip hx (fun h => by omega)]; exact ⟨ha.symm, hm.symm⟩)
        have i1 : ¬ (2 : Int) ≤ (x : Int) := by omega
        clear hx ha hm g1
        go_wp2_with fail
        refine K.out.mono ?_
        rintro e w1 ⟨rfl, k1, rfl⟩
        go_wp2_with fail
        go_roundw
        case rel => exact ⟨4, k + k1, by omega, by first | rfl | go_num, by rw [HR.out.1], by rw [HR.out.2], by first | rfl | exact World.drewN_drewN⟩
        case measure => simp [intOf]
    · clear KC HG HN HLIT hj
      go_wp2_with fail
      go_ret2
      exact ⟨rfl, k, rfl⟩
end
end Go.Proofs.Ytdhhibfppcpieaa

/-
  The program's finder: the longest copy by the lists of places.
-/
namespace Go.Proofs.Ytdhhibfppcpieaa
open Go.RowKit

/-- the finder, its lists made or not -/
def Fd (w : World) (g : Nat) (G : Nat → Prop) (A : Option Addr) (n c dict : Nat) (b : List UInt8) (s : Ps) (cnt : Nat) : Prop :=
  (Fu w g G A n c dict b s ∧ cnt = 0) ∨ ∃ (sz ql qa ca : Nat) (cs : Array Value), Fm w g G A n c dict b s cnt sz ql qa ca cs
def FdPost (w : World) (g : Nat) (G : Nat → Prop) (A : Option Addr) (n c dict : Nat) (b : List UInt8) (s : Ps) (w' : World) : Prop :=
  ∃ (G' : Nat → Prop) (cnt : Nat), Fd w' g G' A n c dict b s cnt ∧ cnt ≤ s.i ∧ (∀ i, G' i → G i ∨ w.heap.size ≤ i) ∧ Only G w w'
def LonPost (w : World) (g : Nat) (G : Nat → Prop) (A : Option Addr) (n c dict : Nat) (b : List UInt8) (s : Ps) (r : Nat × Nat) (x : Ending) (w' : World) : Prop :=
  x = .returned (.tuple #[.int .i64 (r.1 : Int), .int .i64 (r.2 : Int)]) ∧ FdPost w g G A n c dict b s w'
section
variable {w : World} {g : Nat} {G : Nat → Prop} {A : Option Addr} {n c dict : Nat} {b : List UInt8} {s : Ps} {cnt : Nat}
theorem Fu.drewN (h : Fu w g G A n c dict b s) (k : Nat) : Fu (w.drewN k) g G A n c dict b s := ⟨h.fq.drewN k, h.gg, h.lt, h.ap⟩
theorem Fd.drewN (h : Fd w g G A n c dict b s cnt) (k : Nat) : Fd (w.drewN k) g G A n c dict b s cnt := by
  rcases h with ⟨h, hc⟩ | ⟨sz, ql, qa, ca, cs, h⟩
  · exact .inl ⟨h.drewN k, hc⟩
  · exact .inr ⟨sz, ql, qa, ca, cs, h.drewN k⟩
theorem Fd.fq (h : Fd w g G A n c dict b s cnt) : ∃ lv av, Fq w g A n c dict b s lv av := by
  rcases h with ⟨h, _⟩ | ⟨sz, ql, qa, ca, cs, h⟩
  · exact ⟨_, _, h.fq⟩
  · exact ⟨_, _, h.fq⟩
theorem Fd.lt (h : Fd w g G A n c dict b s cnt) : ∀ i, G i → i < w.heap.size := by
  rcases h with ⟨h, _⟩ | ⟨sz, ql, qa, ca, cs, h⟩
  · exact h.lt
  · exact h.lt
theorem Fd.same (h : Fd w g G A n c dict b s cnt) (hc : cnt ≤ s.i) (k : Nat) : FdPost w g G A n c dict b s (w.drewN k) :=
  ⟨G, cnt, h.drewN k, hc, fun i hi => .inl hi, (Only.refl _ w).drewN k⟩
theorem padd_any {e : Nat} (h : Fd w g G A n c dict b s cnt) (hc : cnt ≤ e) (he : e < n) :
    Calls Try.prog 36 #[.pointer (some ⟨g, 7, none⟩), .int .i64 (e : Int)] w (AddPost w g G A n c dict b s e) := by
  rcases h with ⟨h, _⟩ | ⟨sz, ql, qa, ca, cs, h⟩
  · exact padd_new h he
  · exact padd_made h hc he
end

/-! ### the loop's numbers -/
section
variable {b : List UInt8} {dict n at_ l m sz : Nat} {x : Nat × Nat}
/-- what is known when the places from m on were looked at -/
structure Lon (b : List UInt8) (dict n at_ l sz m : Nat) (x : Nat × Nat) : Prop where
  is : wor (fun d => cpN b dict n at_ d) l (at_ - m) = x
  m1 : m ≤ at_
  m2 : at_ - m ≤ dict
theorem Lon.start (b : List UInt8) (dict n at_ l sz : Nat) : Lon b dict n at_ l sz at_ (0, 0) := ⟨by rw [Nat.sub_self]; exact wor_zero _ _, Nat.le_refl _, by omega⟩
theorem Lon.or (h : Lon b dict n at_ l sz m x) : x = (0, 0) ∨ l ≤ x.2 := by rw [← h.is]; exact wor_or _ _ _
theorem Lon.ge (h : Lon b dict n at_ l sz m x) (h2 : 2 ≤ l) : 2 ≤ leastOf l x := least_ge h2 (h.or.imp (fun e => by rw [e]) id)
theorem Lon.le (h : Lon b dict n at_ l sz m x) (hl : l ≤ 1000) : leastOf l x ≤ 1000 := by
  have : x.2 ≤ 273 := by
    rw [← h.is]
    unfold wor
    split
    · by_cases h0 : 0 < (best (fun d => cpN b dict n at_ d) (at_ - m)).2
      · have := (best_is _ _ h0).2.1
        rw [← this]
        have := cpN_le b dict n at_ (best (fun d => cpN b dict n at_ d) (at_ - m)).1
        omega
      · omega
    · exact Nat.zero_le _
  unfold leastOf
  split <;> omega
/-- distances of places of another list aren't worth it -/
theorem Lon.other (h2 : 2 ≤ l) (h : Lon b dict n at_ l sz m x) {d : Nat} (hd : d < at_) (hh : hashP b sz (at_ - 1 - d) ≠ hashP b sz at_) : cpN b dict n at_ d < leastOf l x := by
  have hg := h.ge h2
  by_cases hc : 2 ≤ cpN b dict n at_ d
  · obtain ⟨_, _, e0, e1⟩ := cp_short hc
    exact absurd (hash_same e0 e1).symm hh
  · omega
theorem Lon.end_most (h : Lon b dict n at_ l sz m x) (h2 : 2 ≤ l) (hm : ¬ leastOf l x ≤ min 273 (n - at_)) : wor (fun d => cpN b dict n at_ d) l (min at_ dict) = x := by
  have := h.m1
  have := h.m2
  rw [wor_to (n := at_ - m) (by omega) (by omega) (fun d _ _ => by rw [h.is]; have := cpN_le b dict n at_ d; omega)]
  exact h.is
theorem Lon.end_none (h : Lon b dict n at_ l sz m x) (h2 : 2 ≤ l) (hp : (lastN (hashP b sz) (hashP b sz at_) m : Int) - 1 < max ((at_ : Int) - (dict : Int)) 0) : wor (fun d => cpN b dict n at_ d) l (min at_ dict) = x := by
  have h1 := h.m1
  have h3 := h.m2
  rw [wor_to (n := at_ - m) (by omega) (by omega) (fun d hd1 hd2 => by
    rw [h.is]
    refine h.other h2 (by omega) ?_
    cases hq : lastN (hashP b sz) (hashP b sz at_) m with
    | zero => exact lastN_none hq _ (by omega)
    | succ q =>
      obtain ⟨_, _, h5⟩ := lastN_some hq
      rw [hq] at hp
      exact h5 _ (by omega) (by omega))]
  exact h.is
/-- up to the place that is looked at -/
theorem Lon.upto (h : Lon b dict n at_ l sz m x) (h2 : 2 ≤ l) {q : Nat} (hq : lastN (hashP b sz) (hashP b sz at_) m = q + 1) : wor (fun d => cpN b dict n at_ d) l (at_ - 1 - q) = x := by
  have h1 := h.m1
  obtain ⟨h3, _, h5⟩ := lastN_some hq
  rw [wor_to (n := at_ - m) (by omega) (by omega) (fun d hd1 hd2 => by rw [h.is]; exact h.other h2 (by omega) (h5 _ (by omega) (by omega)))]
  exact h.is
theorem Lon.skip (h : Lon b dict n at_ l sz m x) (h2 : 2 ≤ l) {q : Nat} (hq : lastN (hashP b sz) (hashP b sz at_) m = q + 1) (ho : max ((at_ : Int) - (dict : Int)) 0 ≤ (q : Int)) (hg : cpN b dict n at_ (at_ - 1 - q) < leastOf l x) : Lon b dict n at_ l sz q x := by
  have h1 := h.m1
  obtain ⟨h3, _, _⟩ := lastN_some hq
  refine ⟨?_, by omega, by omega⟩
  have := wor_skip (g := fun d => cpN b dict n at_ d) (l0 := l) (n := at_ - 1 - q) (by omega) (by rw [h.upto h2 hq]; exact hg)
  rw [h.upto h2 hq] at this
  rwa [show at_ - 1 - q + 1 = at_ - q by omega] at this
theorem Lon.take (h : Lon b dict n at_ l sz m x) (h2 : 2 ≤ l) {q : Nat} (hq : lastN (hashP b sz) (hashP b sz at_) m = q + 1) (ho : max ((at_ : Int) - (dict : Int)) 0 ≤ (q : Int)) (hg : leastOf l x ≤ cpN b dict n at_ (at_ - 1 - q)) : Lon b dict n at_ l sz q (at_ - 1 - q, cpN b dict n at_ (at_ - 1 - q)) := by
  have h1 := h.m1
  obtain ⟨h3, _, _⟩ := lastN_some hq
  refine ⟨?_, by omega, by omega⟩
  have := wor_take (g := fun d => cpN b dict n at_ d) (l0 := l) (n := at_ - 1 - q) (by omega) (by rw [h.upto h2 hq]; exact hg)
  rwa [show at_ - 1 - q + 1 = at_ - q by omega] at this
end
end Go.Proofs.Ytdhhibfppcpieaa

/-
  The program's finder: the longest copy by the lists of places: the walk.
-/
namespace Go.Proofs.Ytdhhibfppcpieaa
open Go.RowKit
section
variable {w : World} {g : Nat} {G : Nat → Prop} {A : Option Addr} {n c dict : Nat} {b : List UInt8} {s : Ps} {cnt : Nat}
set_option maxRecDepth 100000 in
set_option maxHeartbeats 16000000 in
theorem plongest_any {l : Nat} (h : Fd w g G A n c dict b s cnt) (hc : cnt ≤ s.i) (h2 : 2 ≤ l) (hl : l ≤ 1000) :
    Calls Try.prog 23 #[.pointer (some ⟨g, 0, none⟩), .int .i64 (l : Int)] w (LonPost w g G A n c dict b s (worth b dict n s l)) := by
  obtain ⟨lv0, av0, hq0⟩ := h.fq
  have KM := Lib.hid (pmost_any hq0)
  have hi1 := hq0.i1
  have hn1 := hq0.n1
  have hd1 := hq0.d1
  have hd2 := hq0.d2
  obtain ⟨mo, hmo⟩ : ∃ mo, mo = min 273 (n - s.i) := ⟨_, rfl⟩
  rw [← hmo] at KM
  have HD := Lib.hid h
  have HB := Lib.hid (show n ≤ 1000000000 ∧ s.i ≤ n ∧ 1 ≤ dict ∧ dict ≤ 9223372036854775807 ∧ 2 ≤ l ∧ l ≤ 1000 ∧ cnt ≤ s.i ∧ mo = min 273 (n - s.i) from ⟨hn1, hi1, hd1, hd2, h2, hl, hc, hmo⟩)
  by_cases hlm : l ≤ mo
  · have g1 : ¬ (l : Int) > (mo : Int) := by omega
    have KA := Lib.hid (fun k => padd_any (e := s.i) (h.drewN k) hc (by omega))
    have hw : worth b dict n s l = wor (fun d => cpN b dict n s.i d) l (min s.i dict) := rfl
    rw [hw]
    have HLM := Lib.hid hlm
    have c1 := hq0.c1
    clear h hq0 hi1 hn1 hd1 hd2 hc h2 hl hmo hlm hw
    go_enter Try.func23, Try.ntmps23
    go_wp2_with fail
    refine KM.out.mono ?_
    rintro x w1 ⟨rfl, k1, rfl⟩
    have c1 : (w.drewN k1).cell? ⟨g, 1, none⟩ = some (.int .i64 (s.i : Int)) := c1
    have KA1 := Lib.hid (show Calls Try.prog 36 #[.pointer (some ⟨g, 7, none⟩), .int .i64 (s.i : Int)] (w.drewN k1).drew (AddPost (w.drewN k1).drew g G A n c dict b s s.i) from KA.out (k1 + 1))
    have HS1 := Lib.hid (show w.heap.size ≤ (w.drewN k1).heap.size from Nat.le_refl _)
    have HOA := Lib.hid ((Only.refl G w).drewN k1)
    clear KM KA
    generalize w.drewN k1 = w1 at *
    go_wp2_with fail
    go_region_held3 (fun W => W.cell? ⟨g, 1, none⟩ = some (.int .i64 (s.i : Int))) (first | assumption | exact c1) (first | (go_at_call 36; refine (KA1.out).mono ?_; rintro x w2 ⟨rfl, G2, sz, ql, qa, ca, cs, hF, hN, hO⟩; have HF := Lib.hid hF; have HN2 := Lib.hid hN; have HO2 := Lib.hid hO; have r2 := hF.fq.c1; clear hF hN hO))
    have HOW := Lib.hid (HOA.out.trans ((Only.refl G w1).drew.trans HO2.out))
    have HNW := Lib.hid (fun (i : Nat) (hi : G2 i) => show G i ∨ w.heap.size ≤ i from (HN2.out i hi).imp id (fun h => Nat.le_trans HS1.out h))
    clear KA1 HOA HN2 HO2 HS1 c1 r2
    obtain ⟨O, hO⟩ : ∃ O : Int, O = max ((s.i : Int) - (dict : Int)) 0 := ⟨_, rfl⟩
    have hm := max2_int (P := Try.prog) #[3, 3] 3 ((s.i : Int) - (dict : Int)) 0 O hO
    have e1 : IntKind.i64.wrap ((s.i : Int) - (dict : Int)) = (s.i : Int) - (dict : Int) := IntWalk.i64_in _ (by have := HB.out; omega)
    have c1 := HF.out.fq.c1
    have c2 := HF.out.fq.c2
    have HOO := Lib.hid hO
    clear hO
    go_wp2_with fail
    go_quiet (fail)
    have hf := HF.out.drewN nq
    have HOW3 := Lib.hid (HOW.out.drewN nq)
    clear HF HOW c1 c2 e1 hm
    generalize w2.drewN nq = w3 at *
    have c1 := hf.fq.c1
    have KL := Lib.hid (fun k => plast_any (p := s.i) (hf.drewN k |>.fq.f.cell 7) (hf.drewN k |>.fq.f.cell 8) (hf.drewN k).fq.sl HB.out.1 (by have := HB.out; have := HLM.out; omega) (by have := HB.out; omega) (hf.drewN k).md)
    have HF := Lib.hid hf
    obtain ⟨L0, hL0⟩ : ∃ L0, L0 = lastN (hashP b sz) (hashP b sz s.i) s.i := ⟨_, rfl⟩
    rw [← hL0] at KL
    have HL0 := Lib.hid hL0
    clear hf hL0
    go_wp2_with fail
    go_quiet ((go_at_call 37; exact quiet_drew_at (KL.out _)))
    have hf := HF.out.drewN nq
    have HOW := Lib.hid (HOW3.out.drewN nq)
    clear HF HOW3 c1 KL
    generalize w3.drewN nq = w4 at *
    have HF := Lib.hid hf
    obtain ⟨gg, hgg⟩ : ∃ gg : Nat → Nat, gg = fun d => cpN b dict n s.i d := ⟨_, rfl⟩
    clear hf
    go_wp2_with fail
    go_loopw [1, 7, 8, 10] (fun v1 v7 v8 v10 wr => ∃ (m k : Nat) (x : Nat × Nat), Lon b dict n s.i l sz m x ∧ v10 = .int .i64 ((lastN (hashP b sz) (hashP b sz s.i) m : Nat) - 1 : Int) ∧ v7 = .int .i64 (x.1 : Int) ∧ v8 = .int .i64 (x.2 : Int) ∧ v1 = .int .i64 (leastOf l x : Int) ∧ wr = w4.drewN k) (fun _ _ _ v10 _ => (intOf v10 + 1).toNat)
    case atStart => exact ⟨s.i, 0, (0, 0), Lon.start _ _ _ _ _ _, by rw [HL0.out], rfl, rfl, rfl, rfl⟩
    case round =>
      obtain ⟨m, k, x, hlon, rfl, rfl, rfl, rfl, rfl⟩ := hrel
      obtain ⟨hn, hi, hd1, hd2, h2, hl1, hcnt, hmo⟩ := HB.out
      have hle2 := hlon.ge h2
      have hle3 := hlon.le hl1
      have hml := lastN_le (hashP b sz) (hashP b sz s.i) m
      have hmm := hlon.m1
      obtain ⟨pl, hpl⟩ : ∃ pl, pl = lastN (hashP b sz) (hashP b sz s.i) m := ⟨_, rfl⟩
      obtain ⟨le, hle⟩ : ∃ le, le = leastOf l x := ⟨_, rfl⟩
      rw [← hpl, ← hle]
      rw [← hpl] at hml
      rw [← hle] at hle2 hle3
      by_cases hpo : O ≤ (pl : Int) - 1
      · have i0 : O ≤ (pl : Int) - 1 := hpo
        by_cases hlm : le ≤ mo
        · have i1 : (le : Int) ≤ (mo : Int) := by omega
          obtain ⟨q, rfl⟩ : ∃ q, pl = q + 1 := ⟨pl - 1, by have := HOO.out; omega⟩
          have eq : (((q + 1 : Nat) : Int) - 1) = (q : Int) := by omega
          rw [eq] at i0 ⊢
          have hqm : q < s.i := by omega
          obtain ⟨ba, oa, rfl, hba, hca⟩ := HF.out.fq.sl.2 (by omega)
          have hbl := HF.out.fq.len
          obtain ⟨p1, hp1⟩ : ∃ p1, p1 = q + le - 1 := ⟨_, rfl⟩
          obtain ⟨p2, hp2⟩ : ∃ p2, p2 = s.i + le - 1 := ⟨_, rfl⟩
          have k1' : w4.cell? ⟨ba, oa + p1, none⟩ = some (.int .u8 ((b.getD p1 0).toNat : Int)) := by rw [hca p1 (by omega), bv_get b _ (by omega)]
          have k2' : w4.cell? ⟨ba, oa + p2, none⟩ = some (.int .u8 ((b.getD p2 0).toNat : Int)) := by rw [hca p2 (by omega), bv_get b _ (by omega)]
          have c0 := HF.out.fq.c0
          have c1 := HF.out.fq.c1
          have e1 : IntKind.i64.wrap ((q : Int) + (le : Int)) = (q : Int) + (le : Int) := IntWalk.i64_in _ (by omega)
          have e2 : IntKind.i64.wrap ((q : Int) + (le : Int) - 1) = (p1 : Int) := by rw [IntWalk.i64_in _ (by omega)]; omega
          have e3 : IntKind.i64.wrap ((s.i : Int) + (le : Int)) = (s.i : Int) + (le : Int) := IntWalk.i64_in _ (by omega)
          have e4 : IntKind.i64.wrap ((s.i : Int) + (le : Int) - 1) = (p2 : Int) := by rw [IntWalk.i64_in _ (by omega)]; omega
          have b1 : (0 : Int) ≤ (p1 : Int) := by omega
          have b2 : (p1 : Int) < (n : Int) := by omega
          have b3 : (0 : Int) ≤ (p2 : Int) := by omega
          have b4 : (p2 : Int) < (n : Int) := by omega
          have ho : max ((s.i : Int) - (dict : Int)) 0 ≤ (q : Int) := by rw [← HOO.out]; exact i0
          have hhq := (lastN_some hpl.symm).2.1
          have KH := Lib.hid (fun kk => pahead_any (p := q) ((HF.out.drewN kk).fq.f.cell 9) hqm (by omega) (HF.out.drewN kk).md)
          rw [hhq] at KH
          have HHQ := Lib.hid hhq
          obtain ⟨d, hd⟩ : ∃ d, d = s.i - 1 - q := ⟨_, rfl⟩
          have KC := Lib.hid (fun kk => pcopied_any (d := d) (HF.out.drewN kk).fq (by omega))
          obtain ⟨cp, hcp⟩ : ∃ cp, cp = cpN b dict n s.i d := ⟨_, rfl⟩
          rw [← hcp] at KC
          have hcp2 : cp ≤ 273 := by rw [hcp]; have := cpN_le b dict n s.i d; omega
          obtain ⟨ln, hln⟩ : ∃ ln, ln = lastN (hashP b sz) (hashP b sz s.i) q := ⟨_, rfl⟩
          rw [← hln] at KH
          have hlq : ln ≤ q := by rw [hln]; exact lastN_le _ _ _
          have HNU := Lib.hid (And.intro hln hlq)
          have HSK := Lib.hid (fun (hg : cp < le) => hlon.skip h2 hpl.symm ho (by rw [← hd, ← hcp, ← hle]; exact hg))
          have HTK := Lib.hid (fun (hg : le ≤ cp) => show Lon b dict n s.i l sz q (d, cp) by
            have := hlon.take h2 hpl.symm ho (by rw [← hd, ← hcp, ← hle]; exact hg)
            rwa [← hd, ← hcp] at this)
          have HCL := Lib.hid (fun (hg : le ≤ cp) => show b.getD p2 0 = b.getD p1 0 by
            have := cp_last (b := b) (dict := dict) (e := n) (i := s.i) (d := d) (l := le) (by omega) (by rw [← hcp]; exact hg)
            rw [hp1, hp2, this]
            exact congrArg (fun z => b.getD z 0) (by omega))
          have HLE := Lib.hid hle
          by_cases hxy : b.getD p1 0 = b.getD p2 0
          · rw [← hxy] at k2'
            have d1 : IntKind.i64.wrap ((s.i : Int) - 1) = (s.i : Int) - 1 := IntWalk.i64_in _ (by omega)
            have d2 : IntKind.i64.wrap ((s.i : Int) - 1 - (q : Int)) = (d : Int) := by rw [IntWalk.i64_in _ (by omega)]; omega
            have d3 : IntKind.i64.wrap ((cp : Int) + 1) = (cp : Int) + 1 := IntWalk.i64_in _ (by omega)
            generalize b.getD p1 0 = y at *
            by_cases htk : le ≤ cp
            · have i3 : (le : Int) ≤ (cp : Int) := by omega
              have HL2 := Lib.hid (HTK.out htk)
              have hz : ¬ cp = 0 := by omega
              have HZ := Lib.hid hz
              clear hlon hpl hle hpo hlm hqm hca hbl hp1 hp2 ho hhq hd hcp hcp2 hln hlq hxy htk hz hn hi hd1 hd2 h2 hl1 hcnt hmo hle2 hle3 hml hmm HSK HTK HCL
              go_wp2_with fail
              go_quiet (fail)
              have c1' : ((w4.drewN k).drewN nq).cell? ⟨g, 1, none⟩ = some (.int .i64 (s.i : Int)) := c1
              obtain ⟨k2, hk2⟩ : ∃ k2, (w4.drewN k).drewN nq = w4.drewN k2 := ⟨k + nq, World.drewN_drewN _ _ _⟩
              rw [hk2] at c1' ⊢
              go_wp2_with fail
              refine (KC.out k2).mono ?_
              rintro z w5 ⟨rfl, k5, rfl⟩
              obtain ⟨k6, hk6⟩ : ∃ k6, (w4.drewN k2).drewN k5 = w4.drewN k6 := ⟨k2 + k5, World.drewN_drewN _ _ _⟩
              rw [hk6]
              go_wp2_with fail
              refine (KH.out k6).mono ?_
              rintro z w6 ⟨rfl, rfl⟩
              go_wp2_with fail
              go_roundw
              case rel => exact ⟨q, k6, (d, cp), HL2.out, by rw [HNU.out.1], rfl, rfl, by unfold leastOf; rw [if_neg HZ.out]; first | rfl | go_num, rfl⟩
              case measure => have := HNU.out.2; simp [intOf]; omega
            · have i3 : ¬ (le : Int) ≤ (cp : Int) := by omega
              have HL2 := Lib.hid (HSK.out (by omega))
              clear hlon hpl hle hpo hlm hqm hca hbl hp1 hp2 ho hhq hd hcp hcp2 hln hlq hxy htk hn hi hd1 hd2 h2 hl1 hcnt hmo hle2 hle3 hml hmm HSK HTK HCL d3
              go_wp2_with fail
              go_quiet (fail)
              have c1' : ((w4.drewN k).drewN nq).cell? ⟨g, 1, none⟩ = some (.int .i64 (s.i : Int)) := c1
              obtain ⟨k2, hk2⟩ : ∃ k2, (w4.drewN k).drewN nq = w4.drewN k2 := ⟨k + nq, World.drewN_drewN _ _ _⟩
              rw [hk2] at c1' ⊢
              go_wp2_with fail
              refine (KC.out k2).mono ?_
              rintro z w5 ⟨rfl, k5, rfl⟩
              obtain ⟨k6, hk6⟩ : ∃ k6, (w4.drewN k2).drewN k5 = w4.drewN k6 := ⟨k2 + k5, World.drewN_drewN _ _ _⟩
              rw [hk6]
              go_wp2_with fail
              refine (KH.out k6).mono ?_
              rintro z w6 ⟨rfl, rfl⟩
              go_wp2_with fail
              go_roundw
              case rel => exact ⟨q, k6, x, HL2.out, by rw [HNU.out.1], rfl, rfl, by rw [HLE.out], rfl⟩
              case measure => have := HNU.out.2; simp [intOf]; omega
          · have hne := u8_ne hxy
            have HL2 := Lib.hid (HSK.out (by
              by_cases hg : le ≤ cp
              · exact absurd (HCL.out hg).symm hxy
              · omega))
            generalize b.getD p1 0 = y at *
            generalize b.getD p2 0 = z at *
            have hne2 : ((y.toNat : Int) != (z.toNat : Int)) = true := by simp only [bne, hne]; rfl
            clear hlon hpl hle hpo hlm hqm hca hbl hp1 hp2 ho hhq hd hcp hcp2 hln hlq hxy hn hi hd1 hd2 h2 hl1 hcnt hmo hle2 hle3 hml hmm HSK HTK HCL KC
            go_wp2_with fail
            go_quiet (fail)
            obtain ⟨k2, hk2⟩ : ∃ k2, (w4.drewN k).drewN nq = w4.drewN k2 := ⟨k + nq, World.drewN_drewN _ _ _⟩
            rw [hk2]
            go_wp2_with fail
            refine (KH.out k2).mono ?_
            rintro z w6 ⟨rfl, rfl⟩
            go_wp2_with fail
            go_roundw
            case rel => exact ⟨q, k2, x, HL2.out, by rw [HNU.out.1], rfl, rfl, by rw [HLE.out], rfl⟩
            case measure => have := HNU.out.2; simp [intOf]; omega
        · have i1 : ¬ (le : Int) ≤ (mo : Int) := by omega
          have HR := Lib.hid (hlon.end_most h2 (by rw [← hle, ← hmo]; exact hlm))
          clear hlon hpl hle hpo hlm hn hi hd1 hd2 h2 hl1 hcnt hmo hle2 hle3 hml hmm
          go_wp2_with fail
          go_ret2
          exact ⟨by rw [HR.out]; rfl, G2, s.i, .inr ⟨sz, ql, qa, ca, cs, HF.out.drewN k⟩, Nat.le_refl _, HNW.out, HOW.out.drewN k⟩
      · have i0 : ¬ O ≤ (pl : Int) - 1 := hpo
        have HR := Lib.hid (hlon.end_none h2 (by rw [← hpl]; have := HOO.out; omega))
        clear hlon hpl hle hpo hn hi hd1 hd2 h2 hl1 hcnt hmo hle2 hle3 hml hmm
        go_wp2_with fail
        go_ret2
        exact ⟨by rw [HR.out]; rfl, G2, s.i, .inr ⟨sz, ql, qa, ca, cs, HF.out.drewN k⟩, Nat.le_refl _, HNW.out, HOW.out.drewN k⟩
  · have g1 : (l : Int) > (mo : Int) := by omega
    have hw : worth b dict n s l = (0, 0) := by
      have := lon_le (b := b) (dict := dict) (e := n) (s := s)
      unfold worth
      rw [if_neg (by omega)]
    rw [hw]
    clear h hq0 hi1 hn1 hd1 hd2 hc h2 hl hmo hlm hw
    go_enter Try.func23, Try.ntmps23
    go_wp2_with fail
    refine KM.out.mono ?_
    rintro x w1 ⟨rfl, k1, rfl⟩
    clear KM
    go_wp2_with fail
    go_ret2
    exact ⟨rfl, HD.out.same (by have := HB.out; omega) k1⟩
end
end Go.Proofs.Ytdhhibfppcpieaa
