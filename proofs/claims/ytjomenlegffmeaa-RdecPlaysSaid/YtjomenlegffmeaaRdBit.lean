/-
  The reference's decoder tells a bit.
-/
import Derived.Test.YtjomenlegffmeaaRdLevel
namespace Go.Proofs.Ytjomenlegffmeaa
open Go.RowKit

section
variable {g c at_ r k p : Nat} {A : Option Addr} {w : World} {bs : List UInt8}

set_option maxHeartbeats 1000000 in
theorem rbit_bad {n : Nat} (hB : Blk w g 41 (decCells A n c at_ r k true)) :
    Calls Try.prog 29 #[.pointer (some ⟨g, 0, none⟩), .int .u16 (p : Int)] w fun e w' => e = .returned (.tuple #[.int .i64 0, .int .u16 (p : Int)]) ∧ w = w' := by
  have h4 : w.cell? ⟨g, 4, none⟩ = some (.bool true) := hB.cell 4
  clear hB
  go_enter Try.func29, Try.ntmps29
  go_wp2_with fail
  go_ret2
  exact ⟨rfl, rfl⟩

theorem wrap_u16 (x : Int) (h : 0 ≤ x ∧ x < 65536) : IntKind.u16.wrap x = x := by
  simp [IntKind.wrap, IntKind.bits, IntKind.signed]
  omega

set_option maxHeartbeats 2000000 in
theorem rbit_zero {z : Nat} (hz : z = r / 2048 * p) (hB : Blk w g 41 (decCells A bs.length c at_ r k false)) (hS : Sl w A bs.length (bv bs)) (ha : at_ ≤ bs.length) (hn : bs.length ≤ 1000000000)
    (hne : 0 < bs.length → ∀ b o, A = some ⟨b, o, none⟩ → b ≠ g) (hr0 : 16777216 ≤ r) (hr : r < 4294967296) (hp : POk p) (hlt : k < z) :
    Calls Try.prog 29 #[.pointer (some ⟨g, 0, none⟩), .int .u16 (p : Int)] w fun e w' => e = .returned (.tuple #[.int .i64 0, .int .u16 (up0 p : Int)]) ∧
      ∃ at' r' k' bad', Blk w' g 41 (decCells A bs.length c at' r' k' bad') ∧ Tells bs (lvl z k (bs.drop at_)) at' r' k' bad' ∧ w.grownBy w' (some g) := by
  obtain ⟨b0, b1⟩ := bound_in hr0 hr hp
  rw [← hz] at b0 b1
  obtain ⟨p0, p1⟩ := hp
  have h2 : w.cell? ⟨g, 2, none⟩ = some (.int .u64 (r : Int)) := hB.cell 2
  have h3 : w.cell? ⟨g, 3, none⟩ = some (.int .u64 (k : Int)) := hB.cell 3
  have h4 : w.cell? ⟨g, 4, none⟩ = some (.bool false) := hB.cell 4
  have f2 : w.frozen? ⟨g, 2, none⟩ = false := hB.free 2
  have e1 : IntKind.u64.wrap ((r : Int) / 2048 * (p : Int)) = (z : Int) := by
    rw [show (r : Int) / 2048 * (p : Int) = (z : Int) by rw [hz]; simp]
    exact u64_in _ (by omega)
  have hlt' : (k : Int) < (z : Int) := by omega
  clear hz
  have e2 : IntKind.u16.wrap (2048 - (p : Int)) = 2048 - (p : Int) := wrap_u16 _ (by omega)
  obtain ⟨u, hu⟩ : ∃ u, u = (2048 - p) / 32 := ⟨_, rfl⟩
  have e3 : IntKind.u16.wrap ((2048 - (p : Int)).tdiv 32) = (u : Int) := by
    rw [Int.tdiv_eq_ediv_of_nonneg (by omega), show (2048 - (p : Int)) / 32 = (u : Int) by omega]
    exact wrap_u16 _ (by omega)
  have e5 : IntKind.u16.wrap ((p : Int) + (u : Int)) = (p : Int) + (u : Int) := wrap_u16 _ (by omega)
  have HUP := Lib.hid (show ((up0 p : Nat) : Int) = (p : Int) + (u : Int) by unfold up0; omega)
  clear hu
  have hg1 : w.grownBy (w.setCell ⟨g, 2, none⟩ (.int .u64 (z : Int))) (some g) := only_setCell (World.grownBy.refl w _) (.inl rfl) _
  have K := Lib.hid (level_any (hB.put 2 (.int .u64 (z : Int)) : Blk _ g 41 (decCells A bs.length c at_ z k false)) (hS.grown hg1 hne) ha hn hne (by omega) (by omega) (fun _ => hlt))
  have HG1 := Lib.hid hg1
  clear hB hS hne hg1
  go_enter Try.func29, Try.ntmps29
  go_wp2_with fail
  refine K.out.mono ?_
  rintro e w1 ⟨rfl, at', r', k', bad', hB1, ht, hg⟩
  have HB1 := Lib.hid hB1
  have HT := Lib.hid ht
  have HG := Lib.hid hg
  clear hB1 ht hg
  go_wp2_with fail
  go_ret2
  refine ⟨?_, at', r', k', bad', HB1.out, ?_, only_trans HG1.out HG.out⟩
  · rw [HUP.out]
    rfl
  · have := HT.out
    rwa [if_neg (by simp)] at this

/-- What a bit leaves: behind a definition, so that no walk looks into it. -/
def BitPost (w : World) (g c : Nat) (A : Option Addr) (bs : List UInt8) (b q : Nat) (d : Dc) (e : Ending) (w' : World) : Prop :=
  e = .returned (.tuple #[.int .i64 (b : Int), .int .u16 (q : Int)]) ∧ ∃ at' r' k' bad', Blk w' g 41 (decCells A bs.length c at' r' k' bad') ∧ Tells bs d at' r' k' bad' ∧ w.grownBy w' (some g)

set_option maxHeartbeats 2000000 in
theorem rbit_one {z b : Nat} {d1 : Dc} (hd1 : lvl (r - z) (k - z) (bs.drop at_) = d1) (hb1 : b = if d1 = none then 0 else 1) (hz : z = r / 2048 * p) (hB : Blk w g 41 (decCells A bs.length c at_ r k false)) (hS : Sl w A bs.length (bv bs)) (ha : at_ ≤ bs.length) (hn : bs.length ≤ 1000000000)
    (hne : 0 < bs.length → ∀ b o, A = some ⟨b, o, none⟩ → b ≠ g) (hr0 : 16777216 ≤ r) (hr : r < 4294967296) (hk : k < r) (hp : POk p) (hlt : ¬ k < z) :
    Calls Try.prog 29 #[.pointer (some ⟨g, 0, none⟩), .int .u16 (p : Int)] w (BitPost w g c A bs b (up1 p) d1) := by
  obtain ⟨b0, b1⟩ := bound_in hr0 hr hp
  rw [← hz] at b0 b1
  obtain ⟨p0, p1⟩ := hp
  have h2 : w.cell? ⟨g, 2, none⟩ = some (.int .u64 (r : Int)) := hB.cell 2
  have h3 : w.cell? ⟨g, 3, none⟩ = some (.int .u64 (k : Int)) := hB.cell 3
  have h4 : w.cell? ⟨g, 4, none⟩ = some (.bool false) := hB.cell 4
  have f2 : w.frozen? ⟨g, 2, none⟩ = false := hB.free 2
  have f3 : w.frozen? ⟨g, 3, none⟩ = false := hB.free 3
  have e1 : IntKind.u64.wrap ((r : Int) / 2048 * (p : Int)) = (z : Int) := by
    rw [show (r : Int) / 2048 * (p : Int) = (z : Int) by rw [hz]; simp]
    exact u64_in _ (by omega)
  have hlt' : ¬ (k : Int) < (z : Int) := by omega
  clear hz
  have e2 : IntKind.u64.wrap ((k : Int) - (z : Int)) = ((k - z : Nat) : Int) := by rw [show (k : Int) - (z : Int) = ((k - z : Nat) : Int) by omega]; exact u64_in _ (by omega)
  have e3 : IntKind.u64.wrap ((r : Int) - (z : Int)) = ((r - z : Nat) : Int) := by rw [show (r : Int) - (z : Int) = ((r - z : Nat) : Int) by omega]; exact u64_in _ (by omega)
  have e4 : IntKind.u16.wrap ((p : Int) - (p : Int) / 32) = (p : Int) - (p : Int) / 32 := wrap_u16 _ (by omega)
  have hg1 : w.grownBy ((w.setCell ⟨g, 3, none⟩ (.int .u64 ((k - z : Nat) : Int))).setCell ⟨g, 2, none⟩ (.int .u64 ((r - z : Nat) : Int))) (some g) := only_setCell (g := g) (p := ⟨g, 2, none⟩) (only_setCell (g := g) (p := ⟨g, 3, none⟩) (World.grownBy.refl w _) (.inl rfl) _) (.inl rfl) _
  have K := Lib.hid (level_any ((hB.put 3 (.int .u64 ((k - z : Nat) : Int))).put 2 (.int .u64 ((r - z : Nat) : Int)) : Blk _ g 41 (decCells A bs.length c at_ (r - z) (k - z) false)) (hS.grown hg1 hne) ha hn hne (by omega) (by omega) (fun _ => by omega))
  have HG1 := Lib.hid hg1
  have HUP := Lib.hid (show ((up1 p : Nat) : Int) = (p : Int) - (p : Int) / 32 by unfold up1; omega)
  have HB1 := Lib.hid hb1
  clear hB hS hne hg1 hb1
  generalize r - z = r1 at *
  generalize k - z = k1 at *
  have HD1 := Lib.hid hd1
  clear hd1
  go_enter Try.func29, Try.ntmps29
  go_wp2_with fail
  refine K.out.mono ?_
  rintro e w1 ⟨rfl, at', r', k', bad', hB1, ht, hg⟩
  rw [if_neg (by simp), HD1.out] at ht
  have j4 : w1.cell? ⟨g, 4, none⟩ = some (.bool bad') := hB1.cell 4
  have HBK := Lib.hid hB1
  have HT := Lib.hid ht
  have HG := Lib.hid hg
  clear hB1 ht hg
  cases bad'
  · go_wp2_with fail
    go_ret2
    refine ⟨?_, at', r', k', false, HBK.out, HT.out, only_trans HG1.out HG.out⟩
    have hn : ¬ d1 = none := by
      rcases HT.out.2.2.2 with ⟨h, _⟩ | ⟨_, h⟩
      · cases h
      · rw [h]; simp
    rw [HUP.out, HB1.out, if_neg hn]
    rfl
  · go_wp2_with fail
    go_ret2
    refine ⟨?_, at', r', k', true, HBK.out, HT.out, only_trans HG1.out HG.out⟩
    have hn : d1 = none := by
      rcases HT.out.2.2.2 with ⟨_, h⟩ | ⟨h, _⟩
      · exact h
      · cases h
    rw [HUP.out, HB1.out, if_pos hn]
    rfl

/-- A bit, as the model tells it. -/
theorem rbit_any {d : Dc} {bad : Bool} (hB : Blk w g 41 (decCells A bs.length c at_ r k bad)) (ht : Tells bs d at_ r k bad) (hS : Sl w A bs.length (bv bs)) (hn : bs.length ≤ 1000000000)
    (hne : 0 < bs.length → ∀ b o, A = some ⟨b, o, none⟩ → b ≠ g) (hd : DcOk d) (hp : POk p) :
    Calls Try.prog 29 #[.pointer (some ⟨g, 0, none⟩), .int .u16 (p : Int)] w fun e w' => e = .returned (.tuple #[.int .i64 ((bitD d p).1 : Int), .int .u16 ((bitD d p).2.1 : Int)]) ∧
      ∃ at' r' k' bad', Blk w' g 41 (decCells A bs.length c at' r' k' bad') ∧ Tells bs (bitD d p).2.2 at' r' k' bad' ∧ w.grownBy w' (some g) := by
  obtain ⟨ha, hr, hk, hc⟩ := ht
  rcases hc with ⟨rfl, rfl⟩ | ⟨rfl, rfl⟩
  · refine (rbit_bad hB).mono ?_
    rintro e w' ⟨rfl, rfl⟩
    exact ⟨rfl, at_, r, k, true, hB, ⟨ha, hr, hk, .inl ⟨rfl, rfl⟩⟩, World.grownBy.refl w _⟩
  · obtain ⟨h0, h1, h2⟩ := hd _ _ _ rfl
    unfold bitD
    simp only []
    by_cases hlt : k < r / 2048 * p
    · rw [if_pos hlt]
      exact rbit_zero rfl hB hS ha hn hne h0 hr hp hlt
    · rw [if_neg hlt]
      refine (rbit_one rfl rfl rfl hB hS ha hn hne h0 hr h2 hp hlt).mono ?_
      rintro e w' ⟨rfl, at', r', k', bad', h3, h4, h5⟩
      cases hl : lvl (r - r / 2048 * p) (k - r / 2048 * p) (bs.drop at_) with
      | none =>
        rw [hl] at h4
        exact ⟨rfl, at', r', k', bad', h3, h4, h5⟩
      | some t =>
        rw [hl] at h4
        exact ⟨rfl, at', r', k', bad', h3, h4, h5⟩
end
end Go.Proofs.Ytjomenlegffmeaa
