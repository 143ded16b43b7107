/-
  A feed: made of bytes, it gives each once, in order. Its row lies from block lo on, ahead of its own block.
-/
import Derived.Test.YtcolnmjginpalaaDoorInfo
import Derived.Test.YtcolnmjginpalaaDoorRows
import Derived.Test.YtcolnmjginpalaaDoorOnly
import Derived.Test.YtcolnmjginpalaaDoorArith
import Derived.Tactics
import Derived.Tactics2
import Derived.Laws.Pointers
import Derived.RegionTactic
import Derived.RegionCalls
import Derived.BigQuiet
import Derived.Lib.SliceRun
namespace Go.Proofs.YtcolnmjginpalaaDoor
open Go.RowKit

set_option maxRecDepth 100000 in
set_option maxHeartbeats 2000000 in
theorem clone_any {A : Option Addr} {n c : Nat} {bs : List UInt8} {w : World} (hS : Sl w A n (bv bs)) (hm : n ≤ 1000000000) :
    Calls Tryd.prog 21 #[.slice A n c] w fun e w' =>
      ∃ A' c', e = .returned (.slice A' n c') ∧ w'.ownsRow w.heap.size 5 1 (.slice A' n c') n (bv bs) ∧ Below w.heap.size w w' := by
  obtain ⟨i, hi, hz0, hz1, hz2⟩ := info_parts info_u8
  have hq := fun (w : World) (A : Option Addr) (n c : Nat) => Lib.run_eql_slice_nil (P := Tryd.prog) w 22 5 A n c 0 0 Tryd.underlying22
  go_enter Tryd.func21, Tryd.ntmps21
  go_wp2_with (at_builtin; refine wpList_app _ rfl (.tmp 5) (.tmp 6) 22 rfl w.heap.size 5 i _ 1 Tryd.underlying22 hi hz0 hz1 hz2 rfl _ 0 [] rfl (own_empty w (Nat.le_refl _) _) A n c (bv bs) rfl (hS.alloc _) (bv_one bs) (by omega) (by omega) (by simp) ?_)
  · go_ret
    rename_i hA
    have hA' : A = none := by simpa using hA
    have hn : n = 0 := by
      rcases Nat.eq_zero_or_pos n with h | h
      · exact h
      · obtain ⟨_, _, e, _⟩ := hS.2 h
        rw [hA'] at e; cases e
    subst hn
    have hb : bv bs = [] := List.eq_nil_of_length_eq_zero hS.1
    rw [hb]
    exact ⟨none, 0, rfl, World.ownsRow_nil w _ _ 1, Below.refl _ _⟩
  · intro A' c' w' ho hg
    have HO := Lib.hid ho
    have HG := Lib.hid hg
    clear ho hg
    go_wp2
    go_ret
    have ho := HO.out
    simp only [] at ho ⊢
    refine ⟨A', c', rfl, ho, ?_⟩
    exact ((Below.refl _ _).alloc (Nat.le_refl _) _).trans (below_of_only HG.out (Nat.le_refl _) (by simp))

/-- At block g stands a feed over the bytes bs, whose row lies from block lo on and ahead of g; k were given. -/
def Feed (w : World) (g lo : Nat) (bs : List UInt8) (k : Nat) : Prop :=
  ∃ A c, Blk w g 44 #[.slice A bs.length c, .int .i64 (k : Int)] ∧ Sl w A bs.length (bv bs) ∧ bs.length ≤ c ∧ c ≤ maxLen ∧ k ≤ bs.length ∧ lo ≤ g ∧ (0 < bs.length → ∀ b o, A = some ⟨b, o, none⟩ → lo ≤ b ∧ b < g)

theorem Feed.lt {w : World} {g lo : Nat} {bs : List UInt8} {k : Nat} (h : Feed w g lo bs k) : g < w.heap.size := by
  obtain ⟨_, _, hB, _⟩ := h
  exact hB.lt
theorem Feed.le {w : World} {g lo : Nat} {bs : List UInt8} {k : Nat} (h : Feed w g lo bs k) : k ≤ bs.length := by
  obtain ⟨_, _, _, _, _, _, h, _⟩ := h
  exact h
theorem Feed.lo {w : World} {g lo : Nat} {bs : List UInt8} {k : Nat} (h : Feed w g lo bs k) : lo ≤ g := by
  obtain ⟨_, _, _, _, _, _, _, h, _⟩ := h
  exact h
theorem Feed.drewN {w : World} {g lo : Nat} {bs : List UInt8} {k : Nat} (h : Feed w g lo bs k) (n : Nat) : Feed (w.drewN n) g lo bs k := h
theorem Feed.only {S : Nat → Prop} {w w' : World} {g lo : Nat} {bs : List UInt8} {k : Nat} (h : Feed w g lo bs k) (hb : Only S w w') (hS : ∀ i, S i → i < lo ∨ g < i) : Feed w' g lo bs k := by
  obtain ⟨A, c, hB, hs, h1, h2, h3, h4, h5⟩ := h
  refine ⟨A, c, hB.only hb (fun h => ?_), hs.only hb (fun hn b o e h => ?_), h1, h2, h3, h4, h5⟩
  · have := hS g h; omega
  · have := hS b h
    have := h5 hn b o e
    omega

set_option maxHeartbeats 400000 in
theorem newFeed_any {A : Option Addr} {n c : Nat} {bs : List UInt8} {w : World} (hS : Sl w A n (bv bs)) (hm : n ≤ 1000000000) :
    Calls Tryd.prog 14 #[.slice A n c] w fun e w' =>
      ∃ g, e = .returned (.pointer (some ⟨g, 0, none⟩)) ∧ w.heap.size ≤ g ∧ Feed w' g w.heap.size bs 0 ∧ Below w.heap.size w w' := by
  go_enter Tryd.func14, Tryd.ntmps14
  go_wp2_with (go_at_call 21; refine (clone_any hS hm).mono ?_; rintro e w' ⟨A', c', rfl, ho, hb⟩; have HO := Lib.hid ho; have HB := Lib.hid hb; clear ho hb)
  go_ret
  have hl : n = bs.length := by rw [← hS.1, bv_length]
  subst hl
  obtain ⟨h1, h2, h3, h4⟩ := own_facts HO.out
  exact ⟨_, rfl, HB.out.size, ⟨A', c', Blk.fresh _ _ _, h1.alloc _, h2, h3, by omega, HB.out.size, fun _ b o e => h4 b o e⟩, HB.out.alloc HB.out.size _⟩

set_option maxHeartbeats 400000 in
theorem feed_end {g lo : Nat} {bs : List UInt8} {w : World} (h : Feed w g lo bs bs.length) :
    Calls Tryd.prog 52 #[.pointer (some ⟨g, 0, none⟩)] w fun e w' => e = .returned (.tuple #[.int .u8 0, .bool false]) ∧ ∃ d, w.drewN d = w' := by
  obtain ⟨A, c, hB, hS, h1, h2, h3, h4, h5⟩ := h
  unfold maxLen at h2
  have c0 : w.cell? ⟨g, 0, none⟩ = some (.slice A bs.length c) := hB.cell 0
  have c1 : w.cell? ⟨g, 1, none⟩ = some (.int .i64 (bs.length : Int)) := hB.cell 1
  clear hB hS h4 h5
  go_enter Tryd.func52, Tryd.ntmps52
  go_wp2
  go_quiet (fail)
  go_wp2
  go_ret2
  exact ⟨rfl, _, rfl⟩

set_option maxHeartbeats 400000 in
theorem feed_more {g lo : Nat} {bs : List UInt8} {k : Nat} {w : World} (h : Feed w g lo bs k) (hk : k < bs.length) :
    Calls Tryd.prog 52 #[.pointer (some ⟨g, 0, none⟩)] w fun e w' => e = .returned (.tuple #[.int .u8 ((bs.getD k 0).toNat : Int), .bool true]) ∧ Feed w' g lo bs (k + 1) ∧ w.grownBy w' (some g) := by
  obtain ⟨A, c, hB, hS, h1, h2, h3, h4, h5⟩ := h
  have hm := h2
  unfold maxLen at hm
  obtain ⟨b, o, rfl, hlt, hc⟩ := hS.2 (by omega)
  have hbg : b ≠ g := by have := (h5 (by omega) b o rfl).2; omega
  have c0 : w.cell? ⟨g, 0, none⟩ = some (.slice (some ⟨b, o, none⟩) bs.length c) := hB.cell 0
  have c1 : w.cell? ⟨g, 1, none⟩ = some (.int .i64 (k : Int)) := hB.cell 1
  have f1 : w.frozen? ⟨g, 1, none⟩ = false := hB.free 1
  have cx : w.cell? ⟨b, o + k, none⟩ = some (.int .u8 ((bs.getD k 0).toNat : Int)) := by rw [hc k hk, bv_get _ _ hk]
  generalize bs.getD k 0 = x at cx
  have hne : ((k : Int) == (bs.length : Int)) = false := by simp; omega
  have HB := Lib.hid hB
  have HS := Lib.hid hS
  have H5 := Lib.hid h5
  generalize hn : bs.length = n at *
  have HN := Lib.hid hn
  clear hB hS h5 hc hn
  go_enter Tryd.func52, Tryd.ntmps52
  go_wp2
  go_quiet (fail)
  go_wp2
  go_quiet (fail)
  go_wp2
  go_ret2
  refine ⟨rfl, ?_, ?_⟩
  · have hn := HN.out
    subst hn
    refine ⟨some ⟨b, o, none⟩, c, ?_, ?_, h1, h2, by omega, h4, H5.out⟩
    · exact (HB.out.drewN _).put 1 _
    · exact (HS.out.drewN _).grown (only_setCell (World.grownBy.refl _ _) (.inl rfl) _) (fun hn b' o' e => Nat.ne_of_lt (H5.out hn b' o' e).2)
  · exact only_of_drewN (only_setCell (World.grownBy.refl _ _) (.inl rfl) _)
end Go.Proofs.YtcolnmjginpalaaDoor
