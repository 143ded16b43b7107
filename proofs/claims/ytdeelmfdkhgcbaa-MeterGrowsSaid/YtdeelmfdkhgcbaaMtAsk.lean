/-
  What the laws ask of a meter, and of the reference's; the answers that each law asks first.
-/
import Derived.Test.YtdeelmfdkhgcbaaMtRef
namespace Go.Proofs.Ytdeelmfdkhgcbaa
open Go.RowKit

theorem only_from_alloc {a w : World} {o : Obj} {row : Option Nat} (h : (a.alloc o).grownBy w row) : a.grownBy w row := only_trans (only_alloc (World.grownBy.refl a row) o) h

section
variable {g : Nat} {q : Quo} {s : Tel} {w : World} {k n : Int}

set_option maxHeartbeats 1000000 in
theorem rfree_any (h : MeterAt w 39 g q s) (hf : Fine q s) :
    Calls Try.prog 23 #[.pointer (some ⟨g, 0, none⟩), .int .i64 n] w fun e w' => e = .returned (.tuple #[]) ∧ MeterAt w' 39 g q (s.doFree n) ∧ w.grownBy w' (some g) := by
  have hcell : w.cell? ⟨g, 5, none⟩ = some (.int .i64 s.mem) := Blk.cell h 5
  have hfr : w.frozen? ⟨g, 5, none⟩ = false := Blk.free h 5
  have h0 := hf.m0
  have h1 : s.mem ≤ 9223372036854775807 := by have := hf.m1; have := hf.m2; have := hf.m3; omega
  have H := Lib.hid h
  clear h hf
  by_cases c1 : n > s.mem
  · have D := Lib.hid (show s.doFree n = { s with mem := 0 } by unfold Tel.doFree; rw [show max (s.mem - max n 0) 0 = 0 by omega])
    by_cases c2 : s.mem > 0
    · have e1 : IntKind.i64.wrap (s.mem - s.mem) = 0 := by rw [Int.sub_self]; rfl
      go_enter Try.func23, Try.ntmps23
      go_wp2_with fail
      first | go_end0 | refine bodyPost_ret (results_none rfl _ _ _) rfl ?_
      rw [D.out]
      exact ⟨rfl, Blk.put H.out 5 _, only_setCell (World.grownBy.refl w _) (.inl rfl) _⟩
    · go_enter Try.func23, Try.ntmps23
      go_wp2_with fail
      first | go_end0 | refine bodyPost_ret (results_none rfl _ _ _) rfl ?_
      rw [D.out]
      have := H.out
      rw [show ({ s with mem := 0 } : Tel) = s by rw [← show s.mem = 0 by omega]]
      exact ⟨rfl, this, World.grownBy.refl w _⟩
  · by_cases c2 : n > 0
    · have D := Lib.hid (show s.doFree n = { s with mem := s.mem - n } by unfold Tel.doFree; rw [show max (s.mem - max n 0) 0 = s.mem - n by omega])
      have e1 : IntKind.i64.wrap (s.mem - n) = s.mem - n := IntWalk.i64_in _ (by omega)
      go_enter Try.func23, Try.ntmps23
      go_wp2_with fail
      first | go_end0 | refine bodyPost_ret (results_none rfl _ _ _) rfl ?_
      rw [D.out]
      exact ⟨rfl, Blk.put H.out 5 _, only_setCell (World.grownBy.refl w _) (.inl rfl) _⟩
    · have D := Lib.hid (show s.doFree n = s by unfold Tel.doFree; rw [show max (s.mem - max n 0) 0 = s.mem by omega])
      go_enter Try.func23, Try.ntmps23
      go_wp2_with fail
      first | go_end0 | refine bodyPost_ret (results_none rfl _ _ _) rfl ?_
      rw [D.out]
      exact ⟨rfl, H.out, World.grownBy.refl w _⟩

set_option maxHeartbeats 1000000 in
theorem rup_any (h : MeterAt w 39 g q s) (hf : Fine q s) :
    Calls Try.prog 24 #[.pointer (some ⟨g, 0, none⟩)] w fun e w' => e = .returned (.tuple #[]) ∧ MeterAt w' 39 g q s.doUp ∧ w.grownBy w' (some g) := by
  have hcell : w.cell? ⟨g, 9, none⟩ = some (.int .i64 s.depth) := Blk.cell h 9
  have hfr : w.frozen? ⟨g, 9, none⟩ = false := Blk.free h 9
  have h0 := hf.d0
  have h1 : s.depth ≤ 9223372036854775807 := by have := hf.d1; have := hf.d2; omega
  have H := Lib.hid h
  clear h hf
  by_cases c2 : s.depth > 0
  · have D := Lib.hid (show s.doUp = { s with depth := s.depth - 1 } by unfold Tel.doUp; rw [show max (s.depth - 1) 0 = s.depth - 1 by omega])
    have e1 : IntKind.i64.wrap (s.depth - 1) = s.depth - 1 := IntWalk.i64_in _ (by omega)
    go_enter Try.func24, Try.ntmps24
    go_wp2_with fail
    first | go_end0 | refine bodyPost_ret (results_none rfl _ _ _) rfl ?_
    rw [D.out]
    exact ⟨rfl, Blk.put H.out 9 _, only_setCell (World.grownBy.refl w _) (.inl rfl) _⟩
  · have D := Lib.hid (show s.doUp = s by unfold Tel.doUp; rw [show max (s.depth - 1) 0 = s.depth by omega])
    go_enter Try.func24, Try.ntmps24
    go_wp2_with fail
    first | go_end0 | refine bodyPost_ret (results_none rfl _ _ _) rfl ?_
    rw [D.out]
    exact ⟨rfl, H.out, World.grownBy.refl w _⟩

set_option maxHeartbeats 2000000 in
theorem ask_any (h : MeterAt w 53 g q s) (hf : Fine q s) (hn : n ≤ 9223372036854775807) :
    Calls Try.prog 11 #[.pointer (some ⟨g, 0, none⟩), .agg #[.int .i64 k, .int .i64 n]] w fun e w' =>
      e = .returned (.bool (s.said q k n)) ∧ MeterAt w' 53 g q (s.next q k n) ∧ w.grownBy w' (some g) := by
  have H := Lib.hid h
  have HF := Lib.hid hf
  clear h hf
  by_cases k0 : k = 0
  · subst k0
    go_enter Try.func11, Try.ntmps11
    go_wp2_with fail
    refine (mem_any (H.out.alloc _) HF.out n).mono ?_
    rintro e w' ⟨rfl, hB, hg⟩
    have HB := Lib.hid hB
    have HG := Lib.hid hg
    clear hB hg
    go_wp2_with fail
    go_ret
    exact ⟨rfl, HB.out, only_from_alloc HG.out⟩
  by_cases k1 : k = 1
  · subst k1
    go_enter Try.func11, Try.ntmps11
    go_wp2_with fail
    refine (out_any (H.out.alloc _) HF.out n).mono ?_
    rintro e w' ⟨rfl, hB, hg⟩
    have HB := Lib.hid hB
    have HG := Lib.hid hg
    clear hB hg
    go_wp2_with fail
    go_ret
    exact ⟨rfl, HB.out, only_from_alloc HG.out⟩
  by_cases k2 : k = 2
  · subst k2
    go_enter Try.func11, Try.ntmps11
    go_wp2_with fail
    refine (file_any (H.out.alloc _) HF.out).mono ?_
    rintro e w' ⟨rfl, hB, hg⟩
    have HB := Lib.hid hB
    have HG := Lib.hid hg
    clear hB hg
    go_wp2_with fail
    go_ret
    exact ⟨rfl, HB.out, only_from_alloc HG.out⟩
  by_cases k3 : k = 3
  · subst k3
    go_enter Try.func11, Try.ntmps11
    go_wp2_with fail
    refine (down_any (H.out.alloc _) HF.out).mono ?_
    rintro e w' ⟨rfl, hB, hg⟩
    have HB := Lib.hid hB
    have HG := Lib.hid hg
    clear hB hg
    go_wp2_with fail
    go_ret
    exact ⟨rfl, HB.out, only_from_alloc HG.out⟩
  by_cases k4 : k = 4
  · subst k4
    go_enter Try.func11, Try.ntmps11
    go_wp2_with fail
    refine (step_any (H.out.alloc _) HF.out n).mono ?_
    rintro e w' ⟨rfl, hB, hg⟩
    have HB := Lib.hid hB
    have HG := Lib.hid hg
    clear hB hg
    go_wp2_with fail
    go_ret
    exact ⟨rfl, HB.out, only_from_alloc HG.out⟩
  by_cases k5 : k = 5
  · subst k5
    go_enter Try.func11, Try.ntmps11
    go_wp2_with fail
    refine (free_any (H.out.alloc _) HF.out n hn).mono ?_
    rintro e w' ⟨rfl, hB, hg⟩
    have HB := Lib.hid hB
    have HG := Lib.hid hg
    clear hB hg
    go_wp2_with fail
    go_ret
    exact ⟨rfl, HB.out, only_from_alloc HG.out⟩
  · have S : s.said q k n = true := by unfold Tel.said; rw [if_neg k0, if_neg k1, if_neg k2, if_neg k3, if_neg k4]
    have N : s.next q k n = s.doUp := by unfold Tel.next; rw [if_neg k0, if_neg k1, if_neg k2, if_neg k3, if_neg k4, if_neg k5]
    rw [S, N]
    clear S N
    go_enter Try.func11, Try.ntmps11
    go_wp2_with fail
    refine (up_any (H.out.alloc _) HF.out).mono ?_
    rintro e w' ⟨rfl, hB, hg⟩
    have HB := Lib.hid hB
    have HG := Lib.hid hg
    clear hB hg
    go_wp2_with fail
    go_ret
    exact ⟨rfl, HB.out, only_from_alloc HG.out⟩

set_option maxHeartbeats 2000000 in
theorem said_any (h : MeterAt w 39 g q s) (hf : Fine q s) :
    Calls Try.prog 12 #[.pointer (some ⟨g, 0, none⟩), .agg #[.int .i64 k, .int .i64 n]] w fun e w' =>
      e = .returned (.bool (s.said q k n)) ∧ MeterAt w' 39 g q (s.next q k n) ∧ w.grownBy w' (some g) := by
  have H := Lib.hid h
  have HF := Lib.hid hf
  clear h hf
  by_cases k0 : k = 0
  · subst k0
    go_enter Try.func12, Try.ntmps12
    go_wp2_with fail
    refine (rask0 (H.out.alloc _) HF.out n).mono ?_
    rintro e w' ⟨rfl, hB, hg⟩
    have HB := Lib.hid hB
    have HG := Lib.hid hg
    clear hB hg
    go_wp2_with fail
    go_ret
    exact ⟨rfl, HB.out, only_from_alloc HG.out⟩
  by_cases k1 : k = 1
  · subst k1
    go_enter Try.func12, Try.ntmps12
    go_wp2_with fail
    refine (rask1 (H.out.alloc _) HF.out n).mono ?_
    rintro e w' ⟨rfl, hB, hg⟩
    have HB := Lib.hid hB
    have HG := Lib.hid hg
    clear hB hg
    go_wp2_with fail
    go_ret
    exact ⟨rfl, HB.out, only_from_alloc HG.out⟩
  by_cases k2 : k = 2
  · subst k2
    go_enter Try.func12, Try.ntmps12
    go_wp2_with fail
    refine (rask2 (H.out.alloc _) HF.out n).mono ?_
    rintro e w' ⟨rfl, hB, hg⟩
    have HB := Lib.hid hB
    have HG := Lib.hid hg
    clear hB hg
    go_wp2_with fail
    go_ret
    exact ⟨rfl, HB.out, only_from_alloc HG.out⟩
  by_cases k3 : k = 3
  · subst k3
    go_enter Try.func12, Try.ntmps12
    go_wp2_with fail
    refine (rask3 (H.out.alloc _) HF.out n).mono ?_
    rintro e w' ⟨rfl, hB, hg⟩
    have HB := Lib.hid hB
    have HG := Lib.hid hg
    clear hB hg
    go_wp2_with fail
    go_ret
    exact ⟨rfl, HB.out, only_from_alloc HG.out⟩
  by_cases k4 : k = 4
  · subst k4
    go_enter Try.func12, Try.ntmps12
    go_wp2_with fail
    refine (rask4 (H.out.alloc _) HF.out n).mono ?_
    rintro e w' ⟨rfl, hB, hg⟩
    have HB := Lib.hid hB
    have HG := Lib.hid hg
    clear hB hg
    go_wp2_with fail
    go_ret
    exact ⟨rfl, HB.out, only_from_alloc HG.out⟩
  by_cases k5 : k = 5
  · subst k5
    go_enter Try.func12, Try.ntmps12
    go_wp2_with fail
    refine (rfree_any (n := n) (H.out.alloc _) HF.out).mono ?_
    rintro e w' ⟨rfl, hB, hg⟩
    have HB := Lib.hid hB
    have HG := Lib.hid hg
    clear hB hg
    go_wp2_with fail
    go_ret
    exact ⟨rfl, HB.out, only_from_alloc HG.out⟩
  · have S : s.said q k n = true := by unfold Tel.said; rw [if_neg k0, if_neg k1, if_neg k2, if_neg k3, if_neg k4]
    have N : s.next q k n = s.doUp := by unfold Tel.next; rw [if_neg k0, if_neg k1, if_neg k2, if_neg k3, if_neg k4, if_neg k5]
    rw [S, N]
    clear S N
    by_cases hk : k < 0
    · have hk' : ¬ 0 ≤ k := by omega
      go_enter Try.func12, Try.ntmps12
      go_wp2_with fail
      refine (rup_any (H.out.alloc _) HF.out).mono ?_
      rintro e w' ⟨rfl, hB, hg⟩
      have HB := Lib.hid hB
      have HG := Lib.hid hg
      clear hB hg
      go_wp2_with fail
      go_ret
      exact ⟨rfl, HB.out, only_from_alloc HG.out⟩
    · have hk' : 0 ≤ k := by omega
      have hk5 : ¬ k < 5 := by omega
      go_enter Try.func12, Try.ntmps12
      go_wp2_with fail
      refine (rup_any (H.out.alloc _) HF.out).mono ?_
      rintro e w' ⟨rfl, hB, hg⟩
      have HB := Lib.hid hB
      have HG := Lib.hid hg
      clear hB hg
      go_wp2_with fail
      go_ret
      exact ⟨rfl, HB.out, only_from_alloc HG.out⟩
end

set_option maxHeartbeats 2000000 in
theorem mawake_any (w : World) :
    Calls Try.prog 8 #[] w fun e w' => e = .returned (.bool true) ∧ Below w.heap.size w w' := by
  have N := Lib.hid (fun w => mnew_any ⟨10, 0, 0, 0, 0⟩ w)
  have F0 : Fine ⟨10, 0, 0, 0, 0⟩ ⟨0, 0, 0, 0, 0, 0, 0⟩ := by constructor <;> simp
  have F1 : Fine ⟨10, 0, 0, 0, 0⟩ ⟨6, 6, 0, 0, 0, 0, 0⟩ := by constructor <;> simp
  have F2 : Fine ⟨10, 0, 0, 0, 0⟩ ⟨6, 6, 0, 0, 0, 0, 101⟩ := by constructor <;> simp
  have F3 : Fine ⟨10, 0, 0, 0, 0⟩ ⟨0, 6, 0, 0, 0, 0, 101⟩ := by constructor <;> simp
  have C1 : ∀ (g : Nat) (w : World), MeterAt w 53 g ⟨10, 0, 0, 0, 0⟩ ⟨0, 0, 0, 0, 0, 0, 0⟩ → Calls Try.prog 16 #[.pointer (some ⟨g, 0, none⟩), .int .i64 6] w fun e w' => e = .returned (.bool true) ∧ MeterAt w' 53 g ⟨10, 0, 0, 0, 0⟩ ⟨6, 6, 0, 0, 0, 0, 0⟩ ∧ w.grownBy w' (some g) := fun g w h => mem_any h F0 6
  have C2 : ∀ (g : Nat) (w : World), MeterAt w 53 g ⟨10, 0, 0, 0, 0⟩ ⟨6, 6, 0, 0, 0, 0, 0⟩ → Calls Try.prog 16 #[.pointer (some ⟨g, 0, none⟩), .int .i64 5] w fun e w' => e = .returned (.bool false) ∧ MeterAt w' 53 g ⟨10, 0, 0, 0, 0⟩ ⟨6, 6, 0, 0, 0, 0, 101⟩ ∧ w.grownBy w' (some g) := fun g w h => mem_any h F1 5
  have C3 : ∀ (g : Nat) (w : World), MeterAt w 53 g ⟨10, 0, 0, 0, 0⟩ ⟨6, 6, 0, 0, 0, 0, 101⟩ → Calls Try.prog 17 #[.pointer (some ⟨g, 0, none⟩), .int .i64 6] w fun e w' => e = .returned (.tuple #[]) ∧ MeterAt w' 53 g ⟨10, 0, 0, 0, 0⟩ ⟨0, 6, 0, 0, 0, 0, 101⟩ ∧ w.grownBy w' (some g) := fun g w h => free_any h F2 6 (by decide)
  have C4 : ∀ (g : Nat) (w : World), MeterAt w 53 g ⟨10, 0, 0, 0, 0⟩ ⟨0, 6, 0, 0, 0, 0, 101⟩ → Calls Try.prog 16 #[.pointer (some ⟨g, 0, none⟩), .int .i64 1] w fun e w' => e = .returned (.bool false) ∧ MeterAt w' 53 g ⟨10, 0, 0, 0, 0⟩ ⟨0, 6, 0, 0, 0, 0, 101⟩ ∧ w.grownBy w' (some g) := fun g w h => mem_any h F3 1
  have HC1 := Lib.hid C1
  have HC2 := Lib.hid C2
  have HC3 := Lib.hid C3
  have HC4 := Lib.hid C4
  clear F0 F1 F2 F3 C1 C2 C3 C4
  go_enter Try.func8, Try.ntmps8
  go_wp2_with fail
  refine (N.out _).mono ?_
  rintro e w1 ⟨g, rfl, hm, hg, hb⟩
  have HB := Lib.hid hb
  have HG := Lib.hid hg
  have HM := Lib.hid hm
  clear hb hg hm
  go_wp2_with fail
  refine (HC1.out _ _ HM.out).mono ?_
  rintro e w2 ⟨rfl, hm, hg⟩
  have HM2 := Lib.hid hm
  have HG2 := Lib.hid hg
  clear hg hm
  go_wp2_with fail
  refine (HC2.out _ _ HM2.out).mono ?_
  rintro e w3 ⟨rfl, hm, hg⟩
  have HM3 := Lib.hid hm
  have HG3 := Lib.hid (only_trans HG2.out hg)
  clear hg hm
  go_wp2_with fail
  refine (HC3.out _ _ HM3.out).mono ?_
  rintro e w4 ⟨rfl, hm, hg⟩
  have HM4 := Lib.hid hm
  have HG4 := Lib.hid (only_trans HG3.out hg)
  clear hg hm
  go_wp2_with fail
  refine (HC4.out _ _ HM4.out).mono ?_
  rintro e w5 ⟨rfl, hm, hg⟩
  have HM5 := Lib.hid hm
  have HG5 := Lib.hid (only_trans HG4.out hg)
  clear hg hm
  go_wp2_with fail
  refine (mcode_any HM5.out).mono ?_
  rintro e w6 ⟨rfl, rfl⟩
  go_wp2_with fail
  refine (used_any HM5.out).mono ?_
  rintro e w7 ⟨rfl, hb⟩
  have HB7 := Lib.hid hb
  clear hb
  have hfd : ∀ w : World, (Instr.field 35 (.agg #[.int .i64 0, .int .i64 6, .int .i64 0, .int .i64 0, .int .i64 0, .int .i64 0]) 1).run Try.prog w = .ok (.int .i64 6) w := fun _ => by kernel_rfl
  unfold uArr
  go_wp2_with fail
  go_ret
  have hb5 : Below w.heap.size w w5 := HB.out.trans (below_of_only HG5.out HG.out HB.out.size)
  exact ⟨rfl, hb5.trans (HB7.out.mono hb5.size)⟩
end Go.Proofs.Ytdeelmfdkhgcbaa
