/-
  The program's window: its ring grows; a byte is put, or copied.
-/
import Derived.Test.YtnokbibkjhhcoaaWnWin
import Derived.Deep.RegionLaw
import Derived.Laws.CopyOwn
import Derived.Laws.MakeOwn
import Derived.Deep.Cut
namespace Go.Proofs.Ytnokbibkjhhcoaa
open Go.RowKit

section
variable {w w' : World} {g m : Nat} {G : Nat → Prop} {s : Ws} {ring : List UInt8}

theorem zeros_bv (k : Nat) : madeCells #[.int .u8 0] (k * 1) = (bv (List.replicate k 0)).toArray := by
  rw [Nat.mul_one]
  unfold madeCells bv
  apply Array.ext
  · simp
  · intro i h1 h2
    simp [Nat.mod_one]

theorem grown_bv (ring : List UInt8) (k : Nat) (h : ring.length ≤ k) : splice (bv (List.replicate k 0)) 0 (bv ring) = bv (ring ++ List.replicate (k - ring.length) 0) := by
  unfold splice
  rw [bv_append, bv_length]
  simp [bv]

set_option maxHeartbeats 2000000 in
theorem wgrow_any (h : Po w g G m s ring) (hz : s.sz ≤ 1048576) (hl : ring.length < s.sz) :
    Calls Try.prog 25 #[.pointer (some ⟨g, 0, none⟩)] w fun x w' =>
      x = .returned (.tuple #[]) ∧ ∃ ring' G', Po w' g G' m s ring' ∧ ring.length < ring'.length ∧ (∀ i, G' i → G i ∨ w.heap.size ≤ i) ∧ Only (fun i => i = g) w w' := by
  obtain ⟨i, hi, hz0, hz1, hz2⟩ := info_parts info_u8
  obtain ⟨h1, h2, h3, h4, A, c, hB, hR⟩ := h
  obtain ⟨k, hk⟩ : ∃ k : Nat, (k : Int) = min (max (2 * (ring.length : Int)) 64) (s.sz : Int) := ⟨(min (max (2 * (ring.length : Int)) 64) (s.sz : Int)).toNat, by omega⟩
  have hnk : ring.length < k := by omega
  have hks : k ≤ s.sz := by omega
  have c0 : w.cell? ⟨g, 0, none⟩ = some (.int .i64 (s.sz : Int)) := hB.cell 0
  have c1 : w.cell? ⟨g, 1, none⟩ = some (.slice A ring.length c) := hB.cell 1
  have e1 : IntKind.i64.wrap (2 * (ring.length : Int)) = 2 * (ring.length : Int) := IntWalk.i64_in _ (by omega)
  have hmk : ∀ W : World, (Instr.makeSlice 40 (.int .i64 (min (max (2 * (ring.length : Int)) 64) (s.sz : Int))) (.int .i64 (min (max (2 * (ring.length : Int)) 64) (s.sz : Int)))).run Try.prog W = .ok (.slice (some ⟨W.heap.size, 0, none⟩) k k) (W.alloc (.cells (bv (List.replicate k 0)).toArray 5)) := by
    intro W
    have := run_make (P := Try.prog) W 40 5 i (.int .u8 0) Try.underlying40 hi hz0 .i64 .i64 (k : Int) (k : Int) (by omega) (Int.le_refl _) (by rw [hz2]; omega) (by omega)
    rw [hz1, Int.toNat_natCast] at this
    rw [← hk, this]
    rw [show (Value.int .u8 0).cells = #[.int .u8 0] from rfl, zeros_bv]
  have H := Lib.hid (And.intro h1 (And.intro h2 (And.intro h3 (And.intro h4 (And.intro hB hR)))))
  clear h1 h2 h3 h4 hB hR hk hz0 hz1 hz2 hi
  go_enter Try.func25, Try.ntmps25
  go_wp2_with fail
  go_region
  have hgl : g < w.heap.size := H.out.2.2.2.1 g H.out.2.2.1
  have hW1 : Blk (w.alloc (.cells (bv (List.replicate k 0)).toArray 5)).drew w.heap.size 5 (bv (List.replicate k 0)).toArray := Blk.fresh w _ _
  have hW2 : Below w.heap.size w (w.alloc (.cells (bv (List.replicate k 0)).toArray 5)).drew := ((Below.refl _ _).alloc (Nat.le_refl _) _).trans ⟨rfl, rfl, rfl, Nat.le_refl _, fun _ _ => rfl⟩
  have hW3 : (w.alloc (.cells (bv (List.replicate k 0)).toArray 5)).drew.heap.size = w.heap.size + 1 := by simp [World.drew]
  generalize (w.alloc (.cells (bv (List.replicate k 0)).toArray 5)).drew = W at *
  have c1W : W.cell? ⟨g, 1, none⟩ = some (.slice A ring.length c) := (World.cell?_of_block (hW2.block g hgl)).trans c1
  have hpos : 0 < ring.length → ∃ ad, A = some ad ∧ ∀ j v, (bv ring)[j]? = some v → W.cell? (ad.add j) = some v := by
    intro hp
    rcases H.out.2.2.2.2.2 with ⟨rfl, _⟩ | ⟨r, rfl, _, hBr, hGr, _⟩
    · simp at hp
    · refine ⟨_, rfl, fun j v hv => ?_⟩
      have := (Blk.below hBr hW2).cell j
      rw [show (⟨r, 0, none⟩ : Addr).add j = ⟨r, j, none⟩ by unfold Addr.add; by_cases h0 : j = 0 <;> simp [h0], this]
      simpa using hv
  have hsz1 : (Try.prog.info? 5).map (·.size) = some 1 := by kernel_rfl
  have hcp : ∃ w2, (Builtin.copy_ #[40, 40] 3 #[.slice (some ⟨w.heap.size, 0, none⟩) k k, .slice A ring.length c]).run Try.prog W = .ok (.int .i64 (ring.length : Int)) w2 ∧
      Hid (Blk w2 w.heap.size 5 (bv (ring ++ List.replicate (k - ring.length) 0)).toArray) ∧ Hid (Below w.heap.size w w2) := by
    have hmin : Nat.min ring.length k = ring.length := Nat.min_eq_left (by omega)
    rw [← grown_bv ring k (by omega)]
    by_cases h0 : ring.length = 0
    · refine ⟨W, ?_, ?_, hW2⟩
      · rw [run_copy_none (P := Try.prog) W 40 40 3 5 _ A k k ring.length c Try.underlying40 hsz1 (by rw [hmin]; exact h0), h0]
        rfl
      · have : ring = [] := List.eq_nil_of_length_eq_zero h0
        subst this
        refine Lib.hid ?_
        simpa [splice, bv] using hW1
    · obtain ⟨ad, rfl, hsrc⟩ := hpos (by omega)
      refine ⟨_, run_copy_row (P := Try.prog) W 40 40 3 5 w.heap.size 0 k k ad ring.length c _ 5 (bv ring) Try.underlying40 hsz1 hW1 (by rw [bv_length, hmin]) hsrc (by simp [bv]; omega) (bv_one _) |>.trans (by rw [bv_length]; rfl), ?_, below_setRow hW2 (Nat.le_refl _) _⟩
      have := setRow_heap W w.heap.size _ (List.take 0 (bv (List.replicate k 0)).toArray.toList ++ bv ring ++ List.drop (0 + ring.length) (bv (List.replicate k 0)).toArray.toList).toArray 5 _ hW1
      have e : (List.take 0 (bv (List.replicate k 0)).toArray.toList ++ bv ring ++ List.drop (0 + ring.length) (bv (List.replicate k 0)).toArray.toList) = splice (bv (List.replicate k 0)) 0 (bv ring) := by
        unfold splice
        rw [bv_length]
        simp
      rw [e] at this ⊢
      exact this
  obtain ⟨w2, hrun, HR, HB2⟩ := hcp
  have HK := Lib.hid hnk
  have HKS := Lib.hid hks
  have hB2 : Blk w2 g 53 (wnCells (s.sz : Int) A ring.length c ((s.l.length % s.sz : Nat) : Int) (s.count : Int) (some ⟨m, 0, none⟩)) := Blk.below H.out.2.2.2.2.1 HB2.out
  have d1 : w2.cell? ⟨g, 1, none⟩ = some (.slice A ring.length c) := hB2.cell 1
  have f1 := hB2.free 1
  have hend : ∃ ring' G', Po (w2.setCell ⟨g, 1, none⟩ (.slice (some ⟨w.heap.size, 0, none⟩) k k)) g G' m s ring' ∧ ring.length < ring'.length ∧ (∀ i, G' i → G i ∨ w.heap.size ≤ i) ∧ Only (fun i => i = g) w (w2.setCell ⟨g, 1, none⟩ (.slice (some ⟨w.heap.size, 0, none⟩) k k)) := by
    obtain ⟨h1, h2, h3, h4, hB, hR⟩ := H.out
    have hgl := h4 g h3
    have hk := HK.out
    have hks := HKS.out
    have hlen : (ring ++ List.replicate (k - ring.length) 0).length = k := by simp; omega
    have hr := HR.out
    have HB2 := HB2.out
    have hO : Only (fun i => i = g) w2 (w2.setCell ⟨g, 1, none⟩ (.slice (some ⟨w.heap.size, 0, none⟩) k k)) := (Only.refl (fun i => i = g) w2).setCell (p := ⟨g, 1, none⟩) (.inl rfl) _
    refine ⟨ring ++ List.replicate (k - ring.length) 0, fun i => G i ∨ i = w.heap.size, ⟨h1, ring_grow h2 (by omega), .inl h3, ?_, some ⟨w.heap.size, 0, none⟩, k, ?_, .inr ⟨w.heap.size, rfl, hlen.symm, hr.only hO (by show ¬ w.heap.size = g; omega), .inr rfl, by omega⟩⟩, by omega, ?_, (Only.of_below HB2).trans hO⟩
    · rintro i (hi | rfl)
      · have := h4 i hi; have := HB2.size; simp [World.setCell]; omega
      · have := hr.lt; simpa [World.setCell] using this
    · rw [hlen]
      exact hB2.put 1 (.slice (some ⟨w.heap.size, 0, none⟩) k k)
    · rintro i (hi | rfl)
      · exact .inl hi
      · exact .inr (Nat.le_refl _)
  have HE := Lib.hid hend
  clear hend hB2 HR HB2 hW1 hW2 hW3 HK HKS H hpos hsz1 hmk hgl hnk hks hz hl c0 c1 e1
  go_wp2_with fail
  first | go_end0 | refine bodyPost_ret (results_none rfl _ _ _) rfl ?_
  exact ⟨rfl, HE.out⟩
end
end Go.Proofs.Ytnokbibkjhhcoaa
