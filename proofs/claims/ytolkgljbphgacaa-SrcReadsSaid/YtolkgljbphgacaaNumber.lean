/-
  The cursor's numbers: Num and Number.
-/
import Derived.Test.YtolkgljbphgacaaNums
namespace Go.Proofs.Ytolkgljbphgacaa
open Go.RowKit

/-- how many bits of a byte lead that are 1 -/
def lead (f : Nat) : Nat := 8 - Lib.bitLen (255 - f)
theorem lead_le (f : Nat) : lead f ≤ 8 := Nat.sub_le _ _

/-- A short number at the beginning of bytes: its value, and how many bytes it has. -/
def shortAt : List UInt8 → Option (Nat × Nat)
  | [] => none
  | f :: t => if t.length < lead f.toNat then none else some (f.toNat % 2 ^ (7 - lead f.toNat) * 256 ^ lead f.toNat + leVal (t.take (lead f.toNat)), 1 + lead f.toNat)

set_option maxHeartbeats 1000000 in
theorem number_any {g : Nat} {lo : Nat → Prop} {bs : List UInt8} {k : Nat} {code : Int} {w : World} (h : Cur 65 w g lo bs k code) (hm : bs.length ≤ 1000000000) :
    Calls Try.prog 15 #[.pointer (some ⟨g, 0, none⟩)] w fun e w' =>
      match shortAt (leftOf bs k code) with
      | none => e = .returned (.int .u64 0) ∧ Cur 65 w' g lo bs k (over code 3) ∧ w.grownBy w' (some g)
      | some (v, n) => e = .returned (.int .u64 (v : Int)) ∧ Cur 65 w' g lo bs (k + n) code ∧ w.grownBy w' (some g) := by
  have hr := rest_any h
  have hkl : k + (leftOf bs k code).length ≤ bs.length ∨ (leftOf bs k code) = [] := by
    by_cases hz : code = 0
    · left
      obtain ⟨_, _, _, _, _, _, h3, _⟩ := h
      simp only [leftOf, if_pos hz, List.length_drop]; omega
    · right; simp [leftOf, hz]
  generalize leftOf bs k code = r at hr hkl
  have HR := Lib.hid hr
  have HC := Lib.hid h
  clear hr h
  rcases r with _ | ⟨f, t⟩
  · simp only [shortAt]
    simp only [List.length_nil] at HR
    go_enter Try.func15, Try.ntmps15
    go_wp2_with (first
      | (go_at_call 45; refine HR.out.mono ?_; rintro e w1 ⟨B, c, rfl, _, _, _, _, d, rfl⟩)
      | (go_at_call 47; refine (fail_any (HC.out.drewN _)).mono ?_; rintro e w2 ⟨rfl, hc, hg⟩; have HC2 := Lib.hid hc; have HG := Lib.hid hg; clear hc hg))
    go_ret
    exact ⟨rfl, HC2.out, (only_of_drewN HG.out)⟩
  · have hl8 := lead_le f.toNat
    have hlz := fun (w : World) => lz8_any (x := 255 - f.toNat) (w := w) (by omega)
    have hnot := not_u8 f.toNat f.toNat_lt
    simp only [shortAt]
    simp only [List.length_cons] at HR hkl
    change ∀ w, Calls Try.prog 52 #[.int .u8 ((255 - f.toNat : Nat) : Int)] w fun e w' => e = .returned (.int .i64 (lead f.toNat : Int)) ∧ w = w' at hlz
    generalize lead f.toNat = q at hlz hl8
    have HZ := Lib.hid hlz
    clear hlz
    by_cases hlt : t.length < q
    · rw [if_pos hlt]
      go_enter Try.func15, Try.ntmps15
      go_wp2_with (first
        | (go_at_call 45; refine HR.out.mono ?_; rintro e w1 ⟨B, c, rfl, hcl, hcm, hS, hbg, d, rfl⟩; obtain ⟨b, o, rfl, _, hc⟩ := hS.2 (by omega); have hc0 : w.cell? ⟨b, o, none⟩ = some (.int .u8 (f.toNat : Int)) := hc 0 (by omega); have HS := Lib.hid hS; have HBG := Lib.hid (hbg (by omega) b o rfl); clear hS hc hbg)
        | (go_at_call 52; refine (HZ.out _).mono ?_; rintro e w2 ⟨rfl, rfl⟩)
        | (go_at_call 47; refine (fail_any (HC.out.drewN _)).mono ?_; rintro e w2 ⟨rfl, hc, hg⟩; have HC2 := Lib.hid hc; have HG := Lib.hid hg; clear hc hg))
      go_ret
      exact ⟨rfl, HC2.out, (only_of_drewN HG.out)⟩
    · rw [if_neg hlt]
      have hkl' : k + (1 + q) ≤ bs.length := by
        rcases hkl with h | h
        · omega
        · cases h
      clear hkl
      go_enter Try.func15, Try.ntmps15
      go_wp2_with (first
        | (go_at_call 45; refine HR.out.mono ?_; rintro e w1 ⟨B, c, rfl, hcl, hcm, hS, hbg, d, rfl⟩; obtain ⟨b, o, rfl, _, hc⟩ := hS.2 (by omega); have hc0 : w.cell? ⟨b, o, none⟩ = some (.int .u8 (f.toNat : Int)) := hc 0 (by omega); have HS := Lib.hid hS; have HBG := Lib.hid (hbg (by omega) b o rfl); clear hS hc hbg)
        | (go_at_call 52; refine (HZ.out _).mono ?_; rintro e w2 ⟨rfl, rfl⟩)
        | (go_at_call 48; refine (pass_any (n := 1 + q) (HC.out.drewN _) (by omega) (by omega)).mono ?_; rintro e w2 ⟨rfl, hc, hg⟩; have HC2 := Lib.hid hc; have HG := Lib.hid hg; clear hc hg))
      unfold maxLen at hcm
      have hS2 : Sl w2 (some ⟨b, o, none⟩) (t.length + 1) (bv (f :: t)) := HS.out.grown (only_of_drewN HG.out) (fun _ b' o' e => by injection e with e; injection e with e1 e2; rw [← e1]; exact HBG.out.2)
      have hS3 := (hS2.cut (k := 1) (cap := c) (by omega) hcl).first (k := q) (by omega)
      have hS4 : Sl w2 (if c = 1 then some ⟨b, o, none⟩ else some ⟨b, o + 1, none⟩) q (bv (t.take q)) := by
        have e : (List.take q (List.drop 1 (bv (f :: t)))) = bv (t.take q) := by rw [bv_take]; rfl
        rw [e] at hS3
        simpa [Addr.add] using hS3
      have e1 : IntKind.i64.wrap (1 + (q : Int)) = 1 + (q : Int) := IntWalk.i64_in _ (by omega)
      have e2 : IntKind.i64.wrap (8 * (q : Int)) = 8 * (q : Int) := IntWalk.i64_in _ (by omega)
      have HL := fun (w : World) (A : Option Addr) (c : Nat) (h : Sl w A q (bv (t.take q))) => least_any (c := c) h hl8
      by_cases hc1 : c = 1
      · rw [if_pos hc1] at hS4
        have HS4 := Lib.hid hS4
        have HLL := Lib.hid HL
        clear hS4 hS3 hS2 HL
        subst hc1
        go_quiet ((go_at_call 49; exact quiet_same_at (HLL.out _ _ _ HS4.out)))
        go_wp2
        go_ret
        exact ⟨ret_int (num_step f.toNat q _ f.toNat_lt hl8 (leVal_take_lt t q)), HC2.out, only_drewN (only_of_drewN HG.out) _⟩
      · rw [if_neg hc1] at hS4
        have HS4 := Lib.hid hS4
        have HLL := Lib.hid HL
        clear hS4 hS3 hS2 HL
        go_quiet ((go_at_call 49; exact quiet_same_at (HLL.out _ _ _ HS4.out)))
        go_wp2
        go_ret
        exact ⟨ret_int (num_step f.toNat q _ f.toNat_lt hl8 (leVal_take_lt t q)), HC2.out, only_drewN (only_of_drewN HG.out) _⟩
end Go.Proofs.Ytolkgljbphgacaa
