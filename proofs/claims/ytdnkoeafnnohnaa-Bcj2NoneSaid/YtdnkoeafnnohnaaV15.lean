/-
  B2Step: put together.
-/
import Derived.Test.YtdnkoeafnnohnaaV14
import Derived.Deep.RegionHeld3
import Derived.Deep.CutRange
import Derived.Deep.CutBlock
set_option linter.unusedVariables false
set_option linter.unusedSimpArgs false
/-
  The coder's calls: the byte ahead, the place behind, a place put, a step.
-/
namespace Go.Proofs.Ytdnkoeafnnohnaa
open Go.RowKit

section
variable {w0 w w' : World} {K g : Nat} {G : Option Nat} {V : Nat → Value} {R : Nat → List UInt8} {ps : List Nat} {e : En} {A : Option Addr} {n c i : Nat} {b : List UInt8}

set_option maxHeartbeats 2000000 in
theorem ahead_any (hS : Sl w A b.length (bv b)) (hi : i < b.length) (hn : b.length ≤ 1000000) :
    Calls Try.prog 39 #[.slice A b.length c, .int .i64 (i : Int)] w fun e w' => e = .returned (.int .u8 (ahd b i : Int)) ∧ w = w' := by
  by_cases h0 : i = 0
  · subst h0
    have ha : ahd b 0 = 0 := rfl
    rw [ha]
    clear hS hi hn ha
    show Calls Try.prog 39 #[.slice A b.length c, .int .i64 0] w _
    go_enter Try.func39, Try.ntmps39
    go_wp2_with fail
    go_ret
    exact ⟨rfl, rfl⟩
  · have ha : ahd b i = (b.getD (i - 1) 0).toNat := if_neg h0
    obtain ⟨q, o, rfl, _, hc⟩ := hS.2 (by omega)
    have cx : w.cell? ⟨q, o + (i - 1), none⟩ = some (.int .u8 ((b.getD (i - 1) 0).toNat : Int)) := by rw [hc (i - 1) (by omega), bv_get _ _ (by omega)]
    obtain ⟨j, hj⟩ : ∃ j, j = i - 1 := ⟨_, rfl⟩
    have hij : i = j + 1 := by omega
    rw [← hj] at cx ha
    rw [ha]
    have h1 : (((j + 1 : Nat) : Int) == 0) = false := by simp; omega
    have h2 : (j : Int) < (b.length : Int) := by omega
    have h3 : (0 : Int) ≤ (j : Int) := by omega
    have h4 : (j : Int) ≤ 1000000 := by omega
    rw [hij]
    generalize b.getD j 0 = x at *
    clear hS hi hc ha h0 hj hij hn
    go_enter Try.func39, Try.ntmps39
    go_wp2_with fail
    go_ret
    exact ⟨rfl, rfl⟩

/-- how a place is told -/
def pbV (b : List UInt8) (i : Nat) : Value := if 4 < b.length - i then .tuple #[.int .u32 (plc b i : Int), .bool (decide (plc b i < b.length))] else .tuple #[.int .u32 0, .bool false]
theorem le4_orN (b1 b2 b3 b4 : Nat) (h1 : b1 < 256) (h2 : b2 < 256) (h3 : b3 < 256) (h4 : b4 < 256) :
    bits .or .u32 (bits .or .u32 (bits .or .u32 (b1 : Int) ((b2 : Int) * 256)) ((b3 : Int) * 65536)) ((b4 : Int) * 16777216) = ((b1 + b2 * 256 + b3 * 65536 + b4 * 16777216 : Nat) : Int) := by
  rw [show (b2 : Int) * 256 = ((256 * b2 : Nat) : Int) by omega, show (b3 : Int) * 65536 = ((65536 * b3 : Nat) : Int) by omega, show (b4 : Int) * 16777216 = ((16777216 * b4 : Nat) : Int) by omega, u32_or_nat _ _ (by omega) (by omega), Nat.or_comm, nat_join 8 (256 * b2) b1 (by omega) (by omega), u32_or_nat _ _ (by omega) (by omega), Nat.or_comm, nat_join 16 (65536 * b3) _ (by omega) (by omega),
    u32_or_nat _ _ (by omega) (by omega), Nat.or_comm, nat_join 24 (16777216 * b4) _ (by omega) (by omega)]
  congr 1
  omega

set_option maxRecDepth 100000 in
set_option maxHeartbeats 4000000 in
theorem placeBehind_any (hS : Sl w A b.length (bv b)) (hc : b.length ≤ c) (hi : i < b.length) (hn : b.length ≤ 1000000) :
    Calls Try.prog 40 #[.slice A b.length c, .int .i64 (i : Int)] w fun e w' => e = .returned (pbV b i) ∧ ∃ d, w.drewN d = w' := by
  unfold pbV
  by_cases h4 : 4 < b.length - i
  · rw [if_pos h4]
    obtain ⟨q, o, rfl, _, hcell⟩ := hS.2 (by omega)
    have x0 : w.cell? ⟨q, o + (i + 1), none⟩ = some (.int .u8 ((b.getD (i + 1) 0).toNat : Int)) := by rw [hcell (i + 1) (by omega), bv_get _ _ (by omega)]
    have x1 : w.cell? ⟨q, o + (i + 1) + 1, none⟩ = some (.int .u8 ((b.getD (i + 2) 0).toNat : Int)) := by rw [Nat.add_assoc, hcell (i + 2) (by omega), bv_get _ _ (by omega)]
    have x2 : w.cell? ⟨q, o + (i + 1) + 2, none⟩ = some (.int .u8 ((b.getD (i + 3) 0).toNat : Int)) := by rw [Nat.add_assoc, hcell (i + 3) (by omega), bv_get _ _ (by omega)]
    have x3 : w.cell? ⟨q, o + (i + 1) + 3, none⟩ = some (.int .u8 ((b.getD (i + 4) 0).toNat : Int)) := by rw [Nat.add_assoc, hcell (i + 4) (by omega), bv_get _ _ (by omega)]
    have hpl : plc b i = ((b.getD (i + 1) 0).toNat + (b.getD (i + 2) 0).toNat * 256 + (b.getD (i + 3) 0).toNat * 65536 + (b.getD (i + 4) 0).toNat * 16777216 + i + 5) % 4294967296 := rfl
    have l1 := (b.getD (i + 1) 0).toNat_lt
    have l2 := (b.getD (i + 2) 0).toNat_lt
    have l3 := (b.getD (i + 3) 0).toNat_lt
    have l4 := (b.getD (i + 4) 0).toNat_lt
    rw [hpl]
    generalize (b.getD (i + 1) 0).toNat = b1 at *
    generalize (b.getD (i + 2) 0).toNat = b2 at *
    generalize (b.getD (i + 3) 0).toNat = b3 at *
    generalize (b.getD (i + 4) 0).toNat = b4 at *
    have hor := le4_orN b1 b2 b3 b4 (by omega) (by omega) (by omega) (by omega)
    obtain ⟨s, hs⟩ : ∃ s, s = b1 + b2 * 256 + b3 * 65536 + b4 * 16777216 := ⟨_, rfl⟩
    rw [← hs] at hor ⊢
    have hsl : s < 4294967296 := by omega
    have HOR := Lib.hid hor
    have HSL := Lib.hid hsl
    have g0 : ¬ (b.length : Int) - (i : Int) ≤ 4 := by omega
    have g1 : (i : Int) + 1 + 4 ≤ (c : Int) := by omega
    have g2 : (0 : Int) ≤ (i : Int) := by omega
    have g3 : (i : Int) ≤ 1000000 := by omega
    have g4 : (i : Int) + 1 ≤ (i : Int) + 1 + 4 := by omega
    have g5 : ¬ c = i + 1 := by omega
    have g6 : (b.length : Int) ≤ 1000000 := by omega
    have f1 : (b1 : Int) ≤ 255 := by omega
    have f2 : (b2 : Int) ≤ 255 := by omega
    have f3 : (b3 : Int) ≤ 255 := by omega
    have f4 : (b4 : Int) ≤ 255 := by omega
    obtain ⟨z, hz⟩ : ∃ z, z = (s + i + 5) % 4294967296 := ⟨_, rfl⟩
    rw [← hz]
    have HZ := Lib.hid hz
    clear hS hcell hpl hi hn hc h4 hs hor hsl hz
    go_enter Try.func40, Try.ntmps40
    go_wp2_with fail
    go_quiet (fail)
    rw [HOR.out]
    clear HOR x0 x1 x2 x3 f1 f2 f3 f4
    go_wp2_with fail
    go_ret2
    have hz := HZ.out
    have hsl := HSL.out
    have e1 : (((s : Int) + (i : Int) + 1) % 4294967296 + 4) % 4294967296 = (z : Int) := by omega
    have e2 : decide (((s : Int) + (i : Int) + 1 + 4) % 4294967296 < (b.length : Int)) = decide (z < b.length) := by
      have : (((s : Int) + (i : Int) + 1 + 4) % 4294967296 < (b.length : Int)) ↔ z < b.length := by omega
      exact decide_eq_decide.2 this
    refine ⟨?_, _, rfl⟩
    show Ending.returned (.tuple #[.int .u32 ((((s : Int) + (i : Int) + 1) % 4294967296 + 4) % 4294967296), .bool (decide (((s : Int) + (i : Int) + 1 + 4) % 4294967296 < (b.length : Int)))]) = _
    rw [e1, e2]
  · rw [if_neg h4]
    have g0 : (b.length : Int) - (i : Int) ≤ 4 := by omega
    have g2 : (0 : Int) ≤ (i : Int) := by omega
    have g6 : (b.length : Int) ≤ 1000000 := by omega
    have g7 : (i : Int) ≤ 1000000 := by omega
    clear hS h4 hi hc hn
    go_enter Try.func40, Try.ntmps40
    go_wp2_with fail
    go_ret2
    exact ⟨rfl, 0, rfl⟩

theorem be4_cells {p : Nat} (hp : p < 4294967296) : bv (be4 p) = [.int .u8 ((p : Int) / 16777216), .int .u8 ((p : Int) / 65536 % 256), .int .u8 ((p : Int) / 256 % 256), .int .u8 ((p : Int) % 256)] := by
  have e0 : ((UInt8.ofNat (p / 16777216)).toNat : Int) = (p : Int) / 16777216 := by simp; omega
  have e1 : ((UInt8.ofNat (p / 65536)).toNat : Int) = (p : Int) / 65536 % 256 := by simp
  have e2 : ((UInt8.ofNat (p / 256)).toNat : Int) = (p : Int) / 256 % 256 := by simp
  have e3 : ((UInt8.ofNat p).toNat : Int) = (p : Int) % 256 := by simp
  unfold be4 bv
  simp only [List.map_cons, List.map_nil, e0, e1, e2, e3]

theorem four_one (p : Nat) : ∀ u ∈ (#[Value.int .u8 ((p : Int) / 16777216), .int .u8 ((p : Int) / 65536 % 256), .int .u8 ((p : Int) / 256 % 256), .int .u8 ((p : Int) % 256)] : Array Value).toList, u.oneCell' = true := by
  intro u hu
  simp only [List.mem_cons, List.not_mem_nil, or_false] at hu
  rcases hu with rfl | rfl | rfl | rfl <;> rfl
set_option maxRecDepth 100000 in
set_option maxHeartbeats 4000000 in
/-- A place is put. -/
theorem put_any {k p m : Nat} (h : Cd w0 w K g G V R ps e) (hk : k < 258) (hp : p < 4294967296) (hm : m = if k < 256 then 1 else 2) (hl : (R m).length ≤ 1000000) :
    Calls Try.prog 42 #[.pointer (some ⟨K, 0, none⟩), .int .i64 (k : Int), .int .u32 (p : Int)] w fun x w' =>
      x = .returned (.tuple #[]) ∧ ∃ V', Cd w0 w' K g G V' (fun i => if i = m then R m ++ be4 p else R i) ps e := by
  obtain ⟨i8, hi8, hz0, hz1, hz2⟩ := info_parts info_u8
  have KC := Lib.hid (isCall_any k w)
  have hm3 : m < 3 := by rw [hm]; split <;> omega
  obtain ⟨A0, c0, hv0, hrow⟩ := own_form (h.row m hm3)
  have cv := h.blk.out (k := m) (by omega)
  rw [hv0] at cv
  have t0 : (0 : Int) ≤ (p : Int) := by omega
  have t1 : (p : Int) ≤ 4294967295 := by omega
  have HH := Lib.hid h
  have HL := Lib.hid (show ((R m).length + 4) * 1 ≤ 140737488355328 by omega)
  have HOW := Lib.hid hrow
  have HB := Lib.hid h.bel.size
  have HV := Lib.hid hv0
  have HC4 := Lib.hid (be4_cells hp)
  by_cases h256 : k < 256
  · rw [decide_eq_true h256] at KC
    obtain rfl : m = 1 := by rw [hm, if_pos h256]
    clear h hp hm3 hrow hv0 hl h256 hm
    have HSL := Lib.hid (sl_lit w 5 #[.int .u8 ((p : Int) / 16777216), .int .u8 ((p : Int) / 65536 % 256), .int .u8 ((p : Int) / 256 % 256), .int .u8 ((p : Int) % 256)] (show 4 ≤ 1000000000 by decide))
    have hbs : w0.heap.size ≤ (w.alloc (.cells #[.int .u8 ((p : Int) / 16777216), .int .u8 ((p : Int) / 65536 % 256), .int .u8 ((p : Int) / 256 % 256), .int .u8 ((p : Int) % 256)] 5)).heap.size := by have := HB.out; simp; omega
    have HBS := Lib.hid hbs
    clear hbs
    go_enter Try.func42, Try.ntmps42
    go_wp2_with fail
    refine KC.out.mono ?_
    rintro x w1 ⟨rfl, rfl⟩
    go_wp2_with (first
      | (at_builtin; refine wpList_appO _ rfl (.tmp 20) (.tmp 32) 22 rfl w0.heap.size 5 i8 _ 1 Try.underlying22 hi8 hz0 hz1 hz2 rfl _ (R 1).length (bv (R 1)) rfl (HOW.out.alloc _) _ 4 4 _ rfl HSL.out (four_one p) HL.out (by decide) HBS.out ?_)
      | fail)
    intro O3 co3 w3 ho3 hg3 hv3
    have hlen : (be4 p).length = 4 := rfl
    obtain ⟨d0, z0, hC⟩ := HH.out.app (k := 1) (by decide) ((Only.refl (fun _ => False) w).alloc (.cells #[.int .u8 ((p : Int) / 16777216), .int .u8 ((p : Int) / 65536 % 256), .int .u8 ((p : Int) / 256 % 256), .int .u8 ((p : Int) % 256)] 5)) (x := be4 p) (A' := O3) (c' := co3) (w3 := w3) (by rw [HC4.out, hlen]; exact ho3) (by rw [HV.out]; exact hg3) (by rw [HV.out, hlen]; simpa using hv3)
    rw [hlen] at hC
    have HC := Lib.hid hC
    clear ho3 hg3 hv3 hC HSL HOW cv
    go_wp2_with fail
    first | go_end0 | refine bodyPost_ret (results_none rfl _ _ _) rfl ?_
    exact ⟨rfl, _, HC.out⟩
  · rw [decide_eq_false h256] at KC
    obtain rfl : m = 2 := by rw [hm, if_neg h256]
    clear h hp hm3 hrow hv0 hl h256 hm
    have HSL := Lib.hid (sl_lit w 5 #[.int .u8 ((p : Int) / 16777216), .int .u8 ((p : Int) / 65536 % 256), .int .u8 ((p : Int) / 256 % 256), .int .u8 ((p : Int) % 256)] (show 4 ≤ 1000000000 by decide))
    have hbs : w0.heap.size ≤ (w.alloc (.cells #[.int .u8 ((p : Int) / 16777216), .int .u8 ((p : Int) / 65536 % 256), .int .u8 ((p : Int) / 256 % 256), .int .u8 ((p : Int) % 256)] 5)).heap.size := by have := HB.out; simp; omega
    have HBS := Lib.hid hbs
    clear hbs
    go_enter Try.func42, Try.ntmps42
    go_wp2_with fail
    refine KC.out.mono ?_
    rintro x w1 ⟨rfl, rfl⟩
    go_wp2_with (first
      | (at_builtin; refine wpList_appO _ rfl (.tmp 20) (.tmp 32) 22 rfl w0.heap.size 5 i8 _ 1 Try.underlying22 hi8 hz0 hz1 hz2 rfl _ (R 2).length (bv (R 2)) rfl (HOW.out.alloc _) _ 4 4 _ rfl HSL.out (four_one p) HL.out (by decide) HBS.out ?_)
      | fail)
    intro O3 co3 w3 ho3 hg3 hv3
    have hlen : (be4 p).length = 4 := rfl
    obtain ⟨d0, z0, hC⟩ := HH.out.app (k := 2) (by decide) ((Only.refl (fun _ => False) w).alloc (.cells #[.int .u8 ((p : Int) / 16777216), .int .u8 ((p : Int) / 65536 % 256), .int .u8 ((p : Int) / 256 % 256), .int .u8 ((p : Int) % 256)] 5)) (x := be4 p) (A' := O3) (c' := co3) (w3 := w3) (by rw [HC4.out, hlen]; exact ho3) (by rw [HV.out]; exact hg3) (by rw [HV.out, hlen]; simpa using hv3)
    rw [hlen] at hC
    have HC := Lib.hid hC
    clear ho3 hg3 hv3 hC HSL HOW cv
    go_wp2_with fail
    first | go_end0 | refine bodyPost_ret (results_none rfl _ _ _) rfl ?_
    exact ⟨rfl, _, HC.out⟩
end
end Go.Proofs.Ytdnkoeafnnohnaa
