/-
  Bytes, each a literal: numbers; what was told, in a new row.
-/
import Derived.Test.YtjgdjobhhdhfjaaGreatQa21
set_option linter.unusedSimpArgs false
set_option linter.unusedVariables false
namespace Go.Proofs.YtjgdjobhhdhfjaaGreat
open Go.RowKit

def litQ (bs : List UInt8) (i : Nat) : Pq := ⟨0, ((bs.getD i 0).toNat : Int), 0, 0⟩
theorem litQ_lit (bs : List UInt8) (i : Nat) : PqLit (litQ bs i) := by
  have := (bs.getD i 0).toNat_lt
  unfold litQ
  exact ⟨⟨by show -9223372036854775808 ≤ (0 : Int); omega, by show (0 : Int) ≤ _; omega⟩, ⟨by show (0 : Int) ≤ ((bs.getD i 0).toNat : Int); omega, by show ((bs.getD i 0).toNat : Int) ≤ 255; omega⟩, ⟨by show -9223372036854775808 ≤ (0 : Int); omega, by show (0 : Int) ≤ _; omega⟩, ⟨by show (0 : Int) ≤ 0; omega, by show (0 : Int) ≤ _; omega⟩⟩
theorem lit_fits {z : Lzs} (h : z.ended = false) : fitsP z 0 0 0 = true := by
  unfold fitsP lateP hasP
  rw [h]
  rfl
theorem lit_succ (bs : List UInt8) (s : Lzs × Pm En) (j : Nat) (he : (runG (litQ bs) s j).1.ended = false) :
    runG (litQ bs) s (j + 1) = stepP (runG (litQ bs) s j) ⟨0, 0, 0, bs.getD j 0⟩ := by
  rw [run_succ]
  have eb : (litQ bs j).pk = ⟨0, 0, 0, bs.getD j 0⟩ := by
    show (⟨0, 0, 0, UInt8.ofNat (((bs.getD j 0).toNat : Int)).toNat⟩ : Pk) = _
    rw [Int.toNat_natCast, UInt8.ofNat_toNat]
  rw [eb]
  rfl
theorem lit_run {bs : List UInt8} {lc lp pb dict : Nat} (h : SetOk lc lp pb dict) (hn : bs.length ≤ 3000) : ∀ j, j ≤ bs.length → (runG (litQ bs) (freshS lc lp pb dict) j).1.out = bs.take j ∧ (runG (litQ bs) (freshS lc lp pb dict) j).1.ended = false
  | 0, _ => ⟨rfl, rfl⟩
  | j + 1, hj => by
    obtain ⟨h1, h2⟩ := lit_run h hn j (by omega)
    have hb := run_bad (qs := litQ bs) (n := bs.length) h (fun i _ => litQ_lit bs i) hn j (by omega)
    rw [lit_succ bs _ j h2]
    generalize runG (litQ bs) (freshS lc lp pb dict) j = s at *
    obtain ⟨z, t⟩ := s
    dsimp only at h1 h2 hb
    unfold stepP
    dsimp only
    rw [if_pos (lit_fits h2), packE_lit hb]
    refine ⟨?_, h2⟩
    show z.out ++ [bs.getD j 0] = _
    rw [h1, List.take_add_one]
    congr 1
    rw [List.getElem?_eq_getElem (by omega), List.getD_eq_getElem?_getD, List.getElem?_eq_getElem (by omega)]
    rfl

section
variable {K : Koc} {w w' : World} {Ge Ge' : Option Nat} {A' : Option Addr} {c : Nat} {z : Lzs} {k : Nat} {t : Pm En}
set_option maxRecDepth 100000 in
set_option maxHeartbeats 4000000 in
/-- what was told, in a new row -/
theorem ctold_new (h : Cw K w Ge A' c z k t) (hl : z.out.length ≤ 1000000) :
    Calls Tryz.prog 23 #[.pointer (some ⟨K.g, 0, none⟩)] w fun e w' => ∃ B m, e = .returned (.slice B z.out.length m) ∧ Sl w' B z.out.length (bv z.out) ∧ (∀ q o, B = some ⟨q, o, none⟩ → w.heap.size ≤ q) ∧ Only (fun _ => False) w w' := by
  have KC := Lib.hid (clone_any (A := A') (c := c) (Sl.of_own h.told) (by omega))
  have c5 := h.f.c5
  clear h hl
  go_enter Tryz.func23, Tryz.ntmps23
  go_wp2_with fail
  refine KC.out.mono ?_
  rintro e w1 ⟨B, m, rfl, hs, hb⟩
  obtain ⟨f1, _, _, f4⟩ := own_facts hs
  have HS := Lib.hid (And.intro f1 f4)
  have HB := Lib.hid (show Only (fun _ => False) w w1 from Only.of_below hb)
  clear hs hb KC f1 f4
  go_wp2_with fail
  go_ret
  exact ⟨B, m, rfl, HS.out.1, fun q o e => (HS.out.2 q o e).1, HB.out⟩
end
end Go.Proofs.YtjgdjobhhdhfjaaGreat
