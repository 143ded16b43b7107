/-
  B2Step, B2Stp, RdRef, RdLevel, RdBit, RdRf, RdBegun, RdFrs, RdBegin: put together.
-/
import Derived.Test.YtdnkoeafnnohnaaY07
import Derived.Deep.RegionHeld3
import Derived.Deep.CutRange
import Derived.Deep.CutBlock
import Derived.Deep.RegionLaw
import Derived.BigQuiet
import Derived.Test.YtdnkoeafnnohnaaRows
import Derived.Test.YtdnkoeafnnohnaaY03
import Derived.Test.YtdnkoeafnnohnaaY01
import Derived.Tactics
import Derived.Tactics2
import Derived.Laws.Pointers
import Derived.RegionTactic
import Derived.RegionCalls
import Derived.Test.YtdnkoeafnnohnaaY02
import Derived.Test.YtdnkoeafnnohnaaY04
import Derived.Deep.AppendLies
import Derived.LoopTactic
set_option linter.unusedVariables false
set_option linter.unusedSimpArgs false
/-
  The coder's calls: the byte ahead, the place behind, a place put, a step.
-/
namespace Go.Proofs.Ytdnkoeafnnohnaa
open Go.RowKit

section
variable {w0 w w' : World} {K g : Nat} {G : Option Nat} {V : Nat → Value} {R : Nat → List UInt8} {ps : List Nat} {e : En} {A : Option Addr} {n c i : Nat} {b : List UInt8}

set_option maxHeartbeats 2000000 in
theorem ahead_any (hS : Sl w A b.length (bv b)) (hi : i < b.length) (hn : b.length ≤ 1000000) :
    Calls Try.prog 39 #[.slice A b.length c, .int .i64 (i : Int)] w fun e w' => e = .returned (.int .u8 (ahd b i : Int)) ∧ w = w' := by
  by_cases h0 : i = 0
  · subst h0
    have ha : ahd b 0 = 0 := rfl
    rw [ha]
    clear hS hi hn ha
    show Calls Try.prog 39 #[.slice A b.length c, .int .i64 0] w _
    go_enter Try.func39, Try.ntmps39
    go_wp2_with fail
    go_ret
    exact ⟨rfl, rfl⟩
  · have ha : ahd b i = (b.getD (i - 1) 0).toNat := if_neg h0
    obtain ⟨q, o, rfl, _, hc⟩ := hS.2 (by omega)
    have cx : w.cell? ⟨q, o + (i - 1), none⟩ = some (.int .u8 ((b.getD (i - 1) 0).toNat : Int)) := by rw [hc (i - 1) (by omega), bv_get _ _ (by omega)]
    obtain ⟨j, hj⟩ : ∃ j, j = i - 1 := ⟨_, rfl⟩
    have hij : i = j + 1 := by omega
    rw [← hj] at cx ha
    rw [ha]
    have h1 : (((j + 1 : Nat) : Int) == 0) = false := by simp; omega
    have h2 : (j : Int) < (b.length : Int) := by omega
    have h3 : (0 : Int) ≤ (j : Int) := by omega
    have h4 : (j : Int) ≤ 1000000 := by omega
    rw [hij]
    generalize b.getD j 0 = x at *
    clear hS hi hc ha h0 hj hij hn
    go_enter Try.func39, Try.ntmps39
    go_wp2_with fail
    go_ret
    exact ⟨rfl, rfl⟩

/-- how a place is told -/
def pbV (b : List UInt8) (i : Nat) : Value := if 4 < b.length - i then .tuple #[.int .u32 (plc b i : Int), .bool (decide (plc b i < b.length))] else .tuple #[.int .u32 0, .bool false]
theorem le4_orN (b1 b2 b3 b4 : Nat) (h1 : b1 < 256) (h2 : b2 < 256) (h3 : b3 < 256) (h4 : b4 < 256) :
    bits .or .u32 (bits .or .u32 (bits .or .u32 (b1 : Int) ((b2 : Int) * 256)) ((b3 : Int) * 65536)) ((b4 : Int) * 16777216) = ((b1 + b2 * 256 + b3 * 65536 + b4 * 16777216 : Nat) : Int) := by
  rw [show (b2 : Int) * 256 = ((256 * b2 : Nat) : Int) by omega, show (b3 : Int) * 65536 = ((65536 * b3 : Nat) : Int) by omega, show (b4 : Int) * 16777216 = ((16777216 * b4 : Nat) : Int) by omega, u32_or_nat _ _ (by omega) (by omega), Nat.or_comm, nat_join 8 (256 * b2) b1 (by omega) (by omega), u32_or_nat _ _ (by omega) (by omega), Nat.or_comm, nat_join 16 (65536 * b3) _ (by omega) (by omega),
    u32_or_nat _ _ (by omega) (by omega), Nat.or_comm, nat_join 24 (16777216 * b4) _ (by omega) (by omega)]
  congr 1
  omega

set_option maxRecDepth 100000 in
set_option maxHeartbeats 4000000 in
theorem placeBehind_any (hS : Sl w A b.length (bv b)) (hc : b.length ≤ c) (hi : i < b.length) (hn : b.length ≤ 1000000) :
    Calls Try.prog 40 #[.slice A b.length c, .int .i64 (i : Int)] w fun e w' => e = .returned (pbV b i) ∧ ∃ d, w.drewN d = w' := by
  unfold pbV
  by_cases h4 : 4 < b.length - i
  · rw [if_pos h4]
    obtain ⟨q, o, rfl, _, hcell⟩ := hS.2 (by omega)
    have x0 : w.cell? ⟨q, o + (i + 1), none⟩ = some (.int .u8 ((b.getD (i + 1) 0).toNat : Int)) := by rw [hcell (i + 1) (by omega), bv_get _ _ (by omega)]
    have x1 : w.cell? ⟨q, o + (i + 1) + 1, none⟩ = some (.int .u8 ((b.getD (i + 2) 0).toNat : Int)) := by rw [Nat.add_assoc, hcell (i + 2) (by omega), bv_get _ _ (by omega)]
    have x2 : w.cell? ⟨q, o + (i + 1) + 2, none⟩ = some (.int .u8 ((b.getD (i + 3) 0).toNat : Int)) := by rw [Nat.add_assoc, hcell (i + 3) (by omega), bv_get _ _ (by omega)]
    have x3 : w.cell? ⟨q, o + (i + 1) + 3, none⟩ = some (.int .u8 ((b.getD (i + 4) 0).toNat : Int)) := by rw [Nat.add_assoc, hcell (i + 4) (by omega), bv_get _ _ (by omega)]
    have hpl : plc b i = ((b.getD (i + 1) 0).toNat + (b.getD (i + 2) 0).toNat * 256 + (b.getD (i + 3) 0).toNat * 65536 + (b.getD (i + 4) 0).toNat * 16777216 + i + 5) % 4294967296 := rfl
    have l1 := (b.getD (i + 1) 0).toNat_lt
    have l2 := (b.getD (i + 2) 0).toNat_lt
    have l3 := (b.getD (i + 3) 0).toNat_lt
    have l4 := (b.getD (i + 4) 0).toNat_lt
    rw [hpl]
    generalize (b.getD (i + 1) 0).toNat = b1 at *
    generalize (b.getD (i + 2) 0).toNat = b2 at *
    generalize (b.getD (i + 3) 0).toNat = b3 at *
    generalize (b.getD (i + 4) 0).toNat = b4 at *
    have hor := le4_orN b1 b2 b3 b4 (by omega) (by omega) (by omega) (by omega)
    obtain ⟨s, hs⟩ : ∃ s, s = b1 + b2 * 256 + b3 * 65536 + b4 * 16777216 := ⟨_, rfl⟩
    rw [← hs] at hor ⊢
    have hsl : s < 4294967296 := by omega
    have HOR := Lib.hid hor
    have HSL := Lib.hid hsl
    have g0 : ¬ (b.length : Int) - (i : Int) ≤ 4 := by omega
    have g1 : (i : Int) + 1 + 4 ≤ (c : Int) := by omega
    have g2 : (0 : Int) ≤ (i : Int) := by omega
    have g3 : (i : Int) ≤ 1000000 := by omega
    have g4 : (i : Int) + 1 ≤ (i : Int) + 1 + 4 := by omega
    have g5 : ¬ c = i + 1 := by omega
    have g6 : (b.length : Int) ≤ 1000000 := by omega
    have f1 : (b1 : Int) ≤ 255 := by omega
    have f2 : (b2 : Int) ≤ 255 := by omega
    have f3 : (b3 : Int) ≤ 255 := by omega
    have f4 : (b4 : Int) ≤ 255 := by omega
    obtain ⟨z, hz⟩ : ∃ z, z = (s + i + 5) % 4294967296 := ⟨_, rfl⟩
    rw [← hz]
    have HZ := Lib.hid hz
    clear hS hcell hpl hi hn hc h4 hs hor hsl hz
    go_enter Try.func40, Try.ntmps40
    go_wp2_with fail
    go_quiet (fail)
    rw [HOR.out]
    clear HOR x0 x1 x2 x3 f1 f2 f3 f4
    go_wp2_with fail
    go_ret2
    have hz := HZ.out
    have hsl := HSL.out
    have e1 : (((s : Int) + (i : Int) + 1) % 4294967296 + 4) % 4294967296 = (z : Int) := by omega
    have e2 : decide (((s : Int) + (i : Int) + 1 + 4) % 4294967296 < (b.length : Int)) = decide (z < b.length) := by
      have : (((s : Int) + (i : Int) + 1 + 4) % 4294967296 < (b.length : Int)) ↔ z < b.length := by omega
      exact decide_eq_decide.2 this
    refine ⟨?_, _, rfl⟩
    show Ending.returned (.tuple #[.int .u32 ((((s : Int) + (i : Int) + 1) % 4294967296 + 4) % 4294967296), .bool (decide (((s : Int) + (i : Int) + 1 + 4) % 4294967296 < (b.length : Int)))]) = _
    rw [e1, e2]
  · rw [if_neg h4]
    have g0 : (b.length : Int) - (i : Int) ≤ 4 := by omega
    have g2 : (0 : Int) ≤ (i : Int) := by omega
    have g6 : (b.length : Int) ≤ 1000000 := by omega
    have g7 : (i : Int) ≤ 1000000 := by omega
    clear hS h4 hi hc hn
    go_enter Try.func40, Try.ntmps40
    go_wp2_with fail
    go_ret2
    exact ⟨rfl, 0, rfl⟩

theorem be4_cells {p : Nat} (hp : p < 4294967296) : bv (be4 p) = [.int .u8 ((p : Int) / 16777216), .int .u8 ((p : Int) / 65536 % 256), .int .u8 ((p : Int) / 256 % 256), .int .u8 ((p : Int) % 256)] := by
  have e0 : ((UInt8.ofNat (p / 16777216)).toNat : Int) = (p : Int) / 16777216 := by simp; omega
  have e1 : ((UInt8.ofNat (p / 65536)).toNat : Int) = (p : Int) / 65536 % 256 := by simp
  have e2 : ((UInt8.ofNat (p / 256)).toNat : Int) = (p : Int) / 256 % 256 := by simp
  have e3 : ((UInt8.ofNat p).toNat : Int) = (p : Int) % 256 := by simp
  unfold be4 bv
  simp only [List.map_cons, List.map_nil, e0, e1, e2, e3]

theorem four_one (p : Nat) : ∀ u ∈ (#[Value.int .u8 ((p : Int) / 16777216), .int .u8 ((p : Int) / 65536 % 256), .int .u8 ((p : Int) / 256 % 256), .int .u8 ((p : Int) % 256)] : Array Value).toList, u.oneCell' = true := by
  intro u hu
  simp only [List.mem_cons, List.not_mem_nil, or_false] at hu
  rcases hu with rfl | rfl | rfl | rfl <;> rfl
set_option maxRecDepth 100000 in
set_option maxHeartbeats 4000000 in
/-- A place is put. -/
theorem put_any {k p m : Nat} (h : Cd w0 w K g G V R ps e) (hk : k < 258) (hp : p < 4294967296) (hm : m = if k < 256 then 1 else 2) (hl : (R m).length ≤ 1000000) :
    Calls Try.prog 42 #[.pointer (some ⟨K, 0, none⟩), .int .i64 (k : Int), .int .u32 (p : Int)] w fun x w' =>
      x = .returned (.tuple #[]) ∧ ∃ V', Cd w0 w' K g G V' (fun i => if i = m then R m ++ be4 p else R i) ps e := by
  obtain ⟨i8, hi8, hz0, hz1, hz2⟩ := info_parts info_u8
  have KC := Lib.hid (isCall_any k w)
  have hm3 : m < 3 := by rw [hm]; split <;> omega
  obtain ⟨A0, c0, hv0, hrow⟩ := own_form (h.row m hm3)
  have cv := h.blk.out (k := m) (by omega)
  rw [hv0] at cv
  have t0 : (0 : Int) ≤ (p : Int) := by omega
  have t1 : (p : Int) ≤ 4294967295 := by omega
  have HH := Lib.hid h
  have HL := Lib.hid (show ((R m).length + 4) * 1 ≤ 140737488355328 by omega)
  have HOW := Lib.hid hrow
  have HB := Lib.hid h.bel.size
  have HV := Lib.hid hv0
  have HC4 := Lib.hid (be4_cells hp)
  by_cases h256 : k < 256
  · rw [decide_eq_true h256] at KC
    obtain rfl : m = 1 := by rw [hm, if_pos h256]
    clear h hp hm3 hrow hv0 hl h256 hm
    have HSL := Lib.hid (sl_lit w 5 #[.int .u8 ((p : Int) / 16777216), .int .u8 ((p : Int) / 65536 % 256), .int .u8 ((p : Int) / 256 % 256), .int .u8 ((p : Int) % 256)] (show 4 ≤ 1000000000 by decide))
    have hbs : w0.heap.size ≤ (w.alloc (.cells #[.int .u8 ((p : Int) / 16777216), .int .u8 ((p : Int) / 65536 % 256), .int .u8 ((p : Int) / 256 % 256), .int .u8 ((p : Int) % 256)] 5)).heap.size := by have := HB.out; simp; omega
    have HBS := Lib.hid hbs
    clear hbs
    go_enter Try.func42, Try.ntmps42
    go_wp2_with fail
    refine KC.out.mono ?_
    rintro x w1 ⟨rfl, rfl⟩
    go_wp2_with (first
      | (at_builtin; refine wpList_appO _ rfl (.tmp 20) (.tmp 32) 22 rfl w0.heap.size 5 i8 _ 1 Try.underlying22 hi8 hz0 hz1 hz2 rfl _ (R 1).length (bv (R 1)) rfl (HOW.out.alloc _) _ 4 4 _ rfl HSL.out (four_one p) HL.out (by decide) HBS.out ?_)
      | fail)
    intro O3 co3 w3 ho3 hg3 hv3
    have hlen : (be4 p).length = 4 := rfl
    obtain ⟨d0, z0, hC⟩ := HH.out.app (k := 1) (by decide) ((Only.refl (fun _ => False) w).alloc (.cells #[.int .u8 ((p : Int) / 16777216), .int .u8 ((p : Int) / 65536 % 256), .int .u8 ((p : Int) / 256 % 256), .int .u8 ((p : Int) % 256)] 5)) (x := be4 p) (A' := O3) (c' := co3) (w3 := w3) (by rw [HC4.out, hlen]; exact ho3) (by rw [HV.out]; exact hg3) (by rw [HV.out, hlen]; simpa using hv3)
    rw [hlen] at hC
    have HC := Lib.hid hC
    clear ho3 hg3 hv3 hC HSL HOW cv
    go_wp2_with fail
    first | go_end0 | refine bodyPost_ret (results_none rfl _ _ _) rfl ?_
    exact ⟨rfl, _, HC.out⟩
  · rw [decide_eq_false h256] at KC
    obtain rfl : m = 2 := by rw [hm, if_neg h256]
    clear h hp hm3 hrow hv0 hl h256 hm
    have HSL := Lib.hid (sl_lit w 5 #[.int .u8 ((p : Int) / 16777216), .int .u8 ((p : Int) / 65536 % 256), .int .u8 ((p : Int) / 256 % 256), .int .u8 ((p : Int) % 256)] (show 4 ≤ 1000000000 by decide))
    have hbs : w0.heap.size ≤ (w.alloc (.cells #[.int .u8 ((p : Int) / 16777216), .int .u8 ((p : Int) / 65536 % 256), .int .u8 ((p : Int) / 256 % 256), .int .u8 ((p : Int) % 256)] 5)).heap.size := by have := HB.out; simp; omega
    have HBS := Lib.hid hbs
    clear hbs
    go_enter Try.func42, Try.ntmps42
    go_wp2_with fail
    refine KC.out.mono ?_
    rintro x w1 ⟨rfl, rfl⟩
    go_wp2_with (first
      | (at_builtin; refine wpList_appO _ rfl (.tmp 20) (.tmp 32) 22 rfl w0.heap.size 5 i8 _ 1 Try.underlying22 hi8 hz0 hz1 hz2 rfl _ (R 2).length (bv (R 2)) rfl (HOW.out.alloc _) _ 4 4 _ rfl HSL.out (four_one p) HL.out (by decide) HBS.out ?_)
      | fail)
    intro O3 co3 w3 ho3 hg3 hv3
    have hlen : (be4 p).length = 4 := rfl
    obtain ⟨d0, z0, hC⟩ := HH.out.app (k := 2) (by decide) ((Only.refl (fun _ => False) w).alloc (.cells #[.int .u8 ((p : Int) / 16777216), .int .u8 ((p : Int) / 65536 % 256), .int .u8 ((p : Int) / 256 % 256), .int .u8 ((p : Int) % 256)] 5)) (x := be4 p) (A' := O3) (c' := co3) (w3 := w3) (by rw [HC4.out, hlen]; exact ho3) (by rw [HV.out]; exact hg3) (by rw [HV.out, hlen]; simpa using hv3)
    rw [hlen] at hC
    have HC := Lib.hid hC
    clear ho3 hg3 hv3 hC HSL HOW cv
    go_wp2_with fail
    first | go_end0 | refine bodyPost_ret (results_none rfl _ _ _) rfl ?_
    exact ⟨rfl, _, HC.out⟩
end
end Go.Proofs.Ytdnkoeafnnohnaa

/-
  A step of the coder.
-/
namespace Go.Proofs.Ytdnkoeafnnohnaa
open Go.RowKit

def totE (R : Nat → List UInt8) (r : E2) : List UInt8 × List UInt8 × List UInt8 × En := (R 0 ++ r.main, R 1 ++ r.call, R 2 ++ r.jump, r.e)
def sumR (R : Nat → List UInt8) : Nat := (R 0).length + (R 1).length + (R 2).length
/-- what a step leaves -/
def StepPost (w0 : World) (K g : Nat) (b : List UInt8) (i : Nat) (R : Nat → List UInt8) (ps : List Nat) (e : En) (x : Ending) (w' : World) : Prop :=
  ∃ (d : Nat) (G' : Option Nat) (V' : Nat → Value) (R' : Nat → List UInt8) (ps' : List Nat) (e' : En), x = .returned (.int .i64 (d : Int)) ∧ 1 ≤ d ∧ i + d ≤ b.length ∧ Cd w0 w' K g G' V' R' ps' e' ∧ e'.l ≤ e.l + 1 ∧ sumR R' = sumR R + d ∧
    ∀ f, totE R (enc b (f + 1) i ps e) = totE R' (enc b f (i + d) ps' e')
def put1 (R : Nat → List UInt8) (x : UInt8) : Nat → List UInt8 := fun i => if i = 0 then R 0 ++ [x] else R i
theorem put1_tot (R : Nat → List UInt8) (x : UInt8) (r : E2) : totE R (r.cons x) = totE (put1 R x) r := by
  unfold totE E2.cons put1
  simp
theorem put1_sum (R : Nat → List UInt8) (x : UInt8) : sumR (put1 R x) = sumR R + 1 := by
  unfold sumR put1
  simp
  omega

theorem pbV_eq (b : List UInt8) (i : Nat) : pbV b i = .tuple #[.int .u32 ((if 4 < b.length - i then plc b i else 0 : Nat) : Int), .bool (apart b i)] := by
  unfold pbV apart
  by_cases h : 4 < b.length - i
  · rw [if_pos h, if_pos h, decide_eq_true h]; simp
  · rw [if_neg h, if_neg h, decide_eq_false h]; simp
def put4 (R : Nat → List UInt8) (m P : Nat) : Nat → List UInt8 := fun i => if i = m then R m ++ be4 P else R i
theorem put4_sum (R : Nat → List UInt8) (x : UInt8) (P : Nat) {m : Nat} (h : m = 1 ∨ m = 2) : sumR (fun i => if i = m then put1 R x m ++ be4 P else put1 R x i) = sumR R + 5 := by
  unfold sumR put1
  rcases h with rfl | rfl
  · simp [be4]; omega
  · simp [be4]; omega
theorem put4_tot (R : Nat → List UInt8) (x : UInt8) (k P : Nat) {m : Nat} (r : E2) (h : m = if k < 256 then 1 else 2) : totE (put1 R x) (r.puts k P) = totE (fun i => if i = m then put1 R x m ++ be4 P else put1 R x i) r := by
  unfold totE E2.puts
  by_cases h2 : k < 256
  · rw [if_pos h2] at h ⊢
    subst h
    simp
  · rw [if_neg h2] at h ⊢
    subst h
    simp

section
variable {w0 w w' : World} {K g : Nat} {G : Option Nat} {V : Nat → Value} {R : Nat → List UInt8} {ps : List Nat} {e : En} {A : Option Addr} {n c i : Nat} {b : List UInt8}

set_option maxRecDepth 100000 in
set_option maxHeartbeats 8000000 in
theorem b2step_any (h : Cd w0 w K g G V R ps e) (hS0 : Sl w0 A b.length (bv b)) (hc : b.length ≤ c) (hi : i < b.length) (hn : b.length ≤ 16384) (hl : sumR R ≤ 16384) (hel : e.l ≤ 100000) :
    Calls Try.prog 25 #[.pointer (some ⟨K, 0, none⟩), .slice A b.length c, .int .i64 (i : Int)] w (StepPost w0 K g b i R ps e) := by
  obtain ⟨i8, hi8, hz0, hz1, hz2⟩ := info_parts info_u8
  have hS := hS0.below h.bel
  obtain ⟨q, o, rfl, _, hcell⟩ := hS.2 (by omega)
  have cx : w.cell? ⟨q, o + i, none⟩ = some (.int .u8 ((b.getD i 0).toNat : Int)) := by rw [hcell i hi, bv_get _ _ hi]
  have hql : q < w0.heap.size := by
    obtain ⟨q', o', e', hlt, _⟩ := hS0.2 (by omega)
    injection e' with e'
    injection e' with e'
    omega
  obtain ⟨A0, c0, hv0, hrow⟩ := own_form (h.row 0 (by decide))
  have cv := h.blk.out (k := 0) (by decide)
  rw [hv0] at cv
  obtain ⟨x, hx⟩ : ∃ x, x = b.getD i 0 := ⟨_, rfl⟩
  rw [← hx] at cx
  have i0 : (0 : Int) ≤ (i : Int) := by omega
  have i1 : (i : Int) < (b.length : Int) := by omega
  have i2 : (b.length : Int) ≤ 16384 := by omega
  have HH := Lib.hid h
  have HL := Lib.hid (show ((R 0).length + 1) * 1 ≤ 140737488355328 by unfold sumR at hl; omega)
  have HLM := Lib.hid (show (R 0).length + 1 ≤ maxLen by unfold sumR at hl; unfold maxLen; omega)
  have HOW := Lib.hid (fun (m : Nat) (ob : Obj) => World.ownsRow.alloc (show (w.drewN m).ownsRow w0.heap.size 5 1 (.slice A0 (R 0).length c0) (R 0).length (bv (R 0)) from hrow) ob)
  have HNW := Lib.hid (fun (m : Nat) (u : Value) => (sl_one (w.drewN m) 5 u).news)
  have HBB := Lib.hid (fun (m : Nat) (ob : Obj) => (show w0.heap.size ≤ ((w.drewN m).alloc ob).heap.size by have h1 := h.bel.size; have h2 : (w.drewN m).heap.size = w.heap.size := rfl; simp; omega))
  have cva : ∀ (m : Nat) (ob : Obj), ((w.drewN m).alloc ob).cell? ⟨K, 259, none⟩ = some (.slice A0 (R 0).length c0) := fun m ob => ((h.blk.only (((Only.refl (fun _ => False) w).drewN m).alloc ob) (fun h => h)).out (k := 0) (by decide)).trans (by rw [hv0])
  have cvb : ∀ (ob : Obj), ((w.alloc ob).drew).cell? ⟨K, 259, none⟩ = some (.slice A0 (R 0).length c0) := fun ob => ((h.blk.only (((Only.refl (fun _ => False) w).alloc ob).drew) (fun h => h)).out (k := 0) (by decide)).trans (by rw [hv0])
  have cvc : ∀ (m : Nat) (ob : Obj), ((w.alloc ob).drewN m).cell? ⟨K, 259, none⟩ = some (.slice A0 (R 0).length c0) := fun m ob => ((h.blk.only (((Only.refl (fun _ => False) w).alloc ob).drewN m) (fun h => h)).out (k := 0) (by decide)).trans (by rw [hv0])
  have HV := Lib.hid hv0
  have HS0 := Lib.hid (And.intro hS0 (And.intro hc (And.intro hi (And.intro hn (And.intro hl (And.intro hel (And.intro hx hql)))))))
  have HAP := Lib.hid (fun (w1 w3 : World) (q' c2 : Nat) (h1 : Only (fun _ => False) w w1) (ho : w3.ownsRow w0.heap.size 5 1 (.slice (some ⟨q', 0, none⟩) ((R 0).length + 1) c2) ((R 0).length + 1) (bv (R 0) ++ [Value.int .u8 (x.toNat : Int)]))
      (hg : w1.grownBy w3 (Value.slice A0 (R 0).length c0).ownBlock) (hq : (Value.slice A0 (R 0).length c0).ownBlock = some q' ∨ q' = w1.heap.size) =>
    (show w3.cell? ⟨K, 259, none⟩ = some (.slice A0 (R 0).length c0) ∧ w3.frozen? ⟨K, 259, none⟩ = false ∧ w3.cell? ⟨q, o + i, none⟩ = some (.int .u8 (x.toNat : Int)) ∧ ∃ V', Cd w0 (w3.setCell ⟨K, 259, none⟩ (.slice (some ⟨q', 0, none⟩) ((R 0).length + 1) c2)) K g G V' (put1 R x) ps e from by
      obtain ⟨z1, z2, z3⟩ := h.app (k := 0) (w1 := w1) (w3 := w3) (A' := some ⟨q', 0, none⟩) (c' := c2) (x := [x]) (by decide) h1 ho (by rw [hv0]; exact hg) (by
        rw [hv0]
        rcases hq with e | e
        · exact .inl e.symm
        · exact .inr (by rw [e]; rfl))
      have hk := h.low.1
      have z4 : w3.cell? ⟨q, o + i, none⟩ = w.cell? ⟨q, o + i, none⟩ := by
        have a1 := z3.bel.cell (p := ⟨q, o + i, none⟩) hql
        have a2 := h.bel.cell (p := ⟨q, o + i, none⟩) hql
        rw [a2, ← a1]
        exact (World.cell?_setCell_other _ _ _ _ (fun e => by injection e with e; omega)).symm
      exact ⟨by rw [z1, hv0], z2, by rw [z4]; exact cx, _, z3⟩))
  clear h hS0 hS hcell hrow hv0 hi hn hl hel hx hc hql
  go_enter Try.func25, Try.ntmps25
  go_wp2_with fail
  go_region_law (first
      | (refine step_append_lies _ rfl (.tmp 16) (.tmp 21) 22 rfl w0.heap.size 5 i8 _ 1 1 Try.underlying22 hi8 hz0 hz1 hz2 rfl (by omega) _ (R 0).length (bv (R 0)) rfl (HOW.out _ _) _ 1 1 [.int .u8 (x.toNat : Int)] rfl rfl (HNW.out _ _) (one_one _ _) (by omega) HLM.out HL.out (HBB.out _ _) _ rfl ?_; intro q' c' w3 hod hgd hqd hql3; obtain ⟨d5, f5, _, hp⟩ := HAP.out _ w3 q' c' (by first | exact ((Only.refl _ w).alloc _).drew | exact ((Only.refl _ w).drewN _).alloc _ | exact (((Only.refl _ w).alloc _).drewN _)) hod hgd hqd; have HP := Lib.hid hp; clear hod hgd hqd hp))
  all_goals
    as_aux_lemma =>
      obtain ⟨V1, hC1⟩ := HP.out
      generalize w3.setCell ⟨K, 259, none⟩ (.slice (some ⟨q', 0, none⟩) ((R 0).length + 1) c') = w1 at *
      obtain ⟨hS0, hc, hi, hn, hl, hel, hx, hql⟩ := HS0.out
      have hS1 := hS0.below hC1.bel
      have HC := Lib.hid hC1
      have ha256 := ahd_lt b i
      have hx256 := x.toNat_lt
      have KA := Lib.hid (fun n => ahead_any (w := w1.drewN n) (c := c) (hS1.drewN n) hi (by omega))
      have KM := Lib.hid (fun W => chance_any (a := ahd b i) (x := x.toNat) ha256 hx256 W)
      obtain ⟨q2, o2, e2, _, hcell1⟩ := hS1.2 (by omega)
      injection e2 with e2
      injection e2 with e2 e3
      subst e2 e3
      have cx1 : w1.cell? ⟨q, o + i, none⟩ = some (.int .u8 (x.toNat : Int)) := by rw [hcell1 i hi, bv_get _ _ hi, ← hx]
      have KP := Lib.hid (fun n => placeBehind_any (w := w1.drewN n) (c := c) (hS1.drewN n) hc hi (by omega))
      clear HP HAP HOW HNW HBB cva cvb cvc HV HL HLM cx cv d5 f5 hS0 hS1 hcell1 hC1 hql3
      unfold markV at KM
      obtain ⟨mk, hmk⟩ : ∃ mk, mk = mark (ahd b i) x.toNat := ⟨_, rfl⟩
      rw [← hmk] at KM
      have HMK := Lib.hid (show mark (ahd b i) (b.getD i 0).toNat = mk by rw [hmk, hx])
      have HXE := Lib.hid hx
      clear hmk hx hc hn hl ha256 hx256 hql
      go_upto_region 2 with fail
      go_quiet ((first
        | (go_at_call 39; exact quiet_same_at (KA.out _))
        | (go_at_call 38; exact quiet_same_at ((KM.out _)))))
      have HC2 := Lib.hid (HC.out.drewN nq)
      clear KA KM HC cx1 KP
      generalize w1.drewN nq = w2 at *
      have hi := HS0.out.2.2.1
      cases mk with
      | none =>
        go_wp2_with fail
        go_ret
        exact ⟨1, G, V1, put1 R x, ps, e, rfl, Nat.le_refl _, hi, HC2.out, by omega, put1_sum R x, fun f => by rw [enc_none hi HMK.out, ← HXE.out, put1_tot]⟩
      | some k =>
        have hk := mark_lt (ahd_lt b i) HMK.out
        by_cases hlast : i + 1 = b.length
        · have j1 : ((i : Int) == (b.length : Int) - 1) = true := by simp; omega
          clear hk
          go_wp2_with fail
          go_ret
          exact ⟨1, G, V1, put1 R x, ps, e, rfl, Nat.le_refl _, hi, HC2.out, by omega, put1_sum R x, fun f => by rw [enc_last hlast HMK.out, ← HXE.out, put1_tot]⟩
        · have j1 : ((i : Int) == (b.length : Int) - 1) = false := by simp; omega
          have hlt : i + 1 < b.length := by omega
          have KP := Lib.hid (placeBehind_any (w := w2) (c := c) (HS0.out.1.below HC2.out.bel) HS0.out.2.1 hi (by have := HS0.out.2.2.2.1; omega))
          rw [pbV_eq] at KP
          have HLT := Lib.hid (And.intro hlt hi)
          obtain ⟨P, hP⟩ : ∃ P, P = (if 4 < b.length - i then plc b i else 0) := ⟨_, rfl⟩
          rw [← hP] at KP
          have HPE := Lib.hid hP
          clear hlast hlt hi hP
          cases hap : apart b i with
          | false =>
            rw [hap] at KP
            have HAPT := Lib.hid hap
            clear hap
            go_wp2_with fail
            refine KP.out.mono ?_
            rintro x2 w3 ⟨rfl, m, rfl⟩
            have HC3 := Lib.hid (HC2.out.drewN m)
            clear KP HC2 j1
            generalize w2.drewN m = w3 at *
            go_wp2_with fail
            have c0b := HC3.out.blk.bits
            have HC4 := Lib.hid (show Cd w0 w3.drew K g G V1 (put1 R x) ps e from HC3.out.drewN 1)
            have k0 : (0 : Int) ≤ (k : Int) := by omega
            have k1 : (k : Int) < 258 := by omega
            go_still_tail 9, (by kernel_rfl)
            change wpList _ _ _ _ _ w3.drew
            have KB := Lib.hid (HC4.out.bit (k := k) (v := 0) hk (by decide) (by have := HS0.out.2.2.2.2.2.1; omega))
            clear c0b k0 k1 HC3 HC4
            generalize w3.drew = w4 at *
            go_wp2_with fail
            refine KB.out.mono ?_
            rintro x2 w5 ⟨rfl, G5, hC5, _⟩
            have HC5 := Lib.hid hC5
            clear hC5 KB
            go_wp2_with fail
            go_ret
            exact ⟨1, G5, V1, put1 R x, _, _, rfl, Nat.le_refl _, HLT.out.2, HC5.out, bit_len _ _ _, put1_sum R x, fun f => by rw [enc_zero HLT.out.1 HMK.out HAPT.out, ← HXE.out, put1_tot]⟩
          | true =>
            rw [hap] at KP
            have hPP : P = plc b i := by
              rw [HPE.out, if_pos]
              have := apart_len hap
              omega
            have HAPT := Lib.hid (And.intro hap hPP)
            clear hap hPP
            go_wp2_with fail
            refine KP.out.mono ?_
            rintro x2 w3 ⟨rfl, m, rfl⟩
            have HC3 := Lib.hid (HC2.out.drewN m)
            clear KP HC2 j1
            generalize w2.drewN m = w3 at *
            go_wp2_with fail
            have c0b := HC3.out.blk.bits
            have HC4 := Lib.hid (show Cd w0 w3.drew K g G V1 (put1 R x) ps e from HC3.out.drewN 1)
            have k0 : (0 : Int) ≤ (k : Int) := by omega
            have k1 : (k : Int) < 258 := by omega
            go_still_tail 9, (by kernel_rfl)
            change wpList _ _ _ _ _ w3.drew
            have KB := Lib.hid (HC4.out.bit (k := k) (v := 1) hk (by decide) (by have := HS0.out.2.2.2.2.2.1; omega))
            clear c0b k0 k1 HC3 HC4
            generalize w3.drew = w4 at *
            go_wp2_with fail
            refine KB.out.mono ?_
            rintro x2 w5 ⟨rfl, G5, hC5, _⟩
            have HC5 := Lib.hid hC5
            clear hC5 KB
            have hPl : P < 4294967296 := by rw [HAPT.out.2]; exact Nat.mod_lt _ (by decide)
            obtain ⟨mm, hmm⟩ : ∃ mm, mm = if k < 256 then 1 else 2 := ⟨_, rfl⟩
            have hm12 : mm = 1 ∨ mm = 2 := by rw [hmm]; split; exact .inl rfl; exact .inr rfl
            have KU := Lib.hid (put_any HC5.out hk hPl hmm (by
              have h1 := HS0.out.2.2.2.2.1
              have h2 : put1 R x mm = R mm := by
                rcases hm12 with e | e <;> rw [e] <;> rfl
              rw [h2]
              unfold sumR at h1
              rcases hm12 with e | e <;> rw [e] <;> omega))
            have HMM := Lib.hid (And.intro hmm hm12)
            clear HC5 hk hPl hmm hm12
            go_wp2_with fail
            refine KU.out.mono ?_
            rintro x2 w6 ⟨rfl, V6, hC6⟩
            have HC6 := Lib.hid hC6
            clear hC6 KU
            go_wp2_with fail
            go_ret
            refine ⟨5, G5, V6, _, _, _, rfl, by omega, apart_len HAPT.out.1, HC6.out, bit_len _ _ _, ?_, fun f => ?_⟩
            · exact put4_sum R x P HMM.out.2
            · rw [enc_one HLT.out.1 HMK.out HAPT.out.1, ← HXE.out, put1_tot, ← HAPT.out.2]
              exact put4_tot R x k P _ HMM.out.1
end
end Go.Proofs.Ytdnkoeafnnohnaa

/-
  The reference's decoder: each call a contract.
-/
namespace Go.Proofs.Ytdnkoeafnnohnaa
open Go.RowKit

def decCells (A : Option Addr) (n c at_ r k : Nat) (b : Bool) : Array Value := #[.slice A n c, .int .i64 (at_ : Int), .int .u64 (r : Int), .int .u64 (k : Int), .bool b]

section
variable {g n c at_ r k : Nat} {A : Option Addr} {w : World} {bs : List UInt8} {bad : Bool}

end

/-- Block g is a decoder of the reference over bs; what lies in the source's memory is apart from it. -/
def DecAt (w : World) (g : Nat) (lo : Nat → Prop) (bs : List UInt8) (d : Dc) : Prop :=
  ∃ A c at_ r k bad, Blk w g 51 (decCells A bs.length c at_ r k bad) ∧ Sl w A bs.length (bv bs) ∧ bs.length ≤ c ∧ c ≤ maxLen ∧ at_ ≤ bs.length ∧ (0 < bs.length → ∀ b o, A = some ⟨b, o, none⟩ → lo b ∧ b ≠ g) ∧
    r < 4294967296 ∧ k < 4294967296 ∧ ((bad = true ∧ d = none) ∨ (bad = false ∧ d = some (r, k, bs.drop at_)))

end Go.Proofs.Ytdnkoeafnnohnaa

/-
  The reference's decoder is evened out.
-/
namespace Go.Proofs.Ytdnkoeafnnohnaa
open Go.RowKit

section
variable {g n c at_ r k : Nat} {A : Option Addr} {w : World} {bad : Bool}

end

/-- A decoder's cells are those of a state d. -/
def Tells (bs : List UInt8) (d : Dc) (at_ r k : Nat) (bad : Bool) : Prop :=
  at_ ≤ bs.length ∧ r < 4294967296 ∧ k < 4294967296 ∧ ((bad = true ∧ d = none) ∨ (bad = false ∧ d = some (r, k, bs.drop at_)))

end Go.Proofs.Ytdnkoeafnnohnaa

/-
  The reference's decoder tells a bit.
-/
namespace Go.Proofs.Ytdnkoeafnnohnaa
open Go.RowKit

section
variable {g c at_ r k p : Nat} {A : Option Addr} {w : World} {bs : List UInt8}

/-- What a bit leaves: behind a definition, so that no walk looks into it. -/
def BitPost (w : World) (g c : Nat) (A : Option Addr) (bs : List UInt8) (b q : Nat) (d : Dc) (e : Ending) (w' : World) : Prop :=
  e = .returned (.tuple #[.int .i64 (b : Int), .int .u16 (q : Int)]) ∧ ∃ at' r' k' bad', Blk w' g 51 (decCells A bs.length c at' r' k' bad') ∧ Tells bs d at' r' k' bad' ∧ w.grownBy w' (some g)

end
end Go.Proofs.Ytdnkoeafnnohnaa

/-
  The reference's decoder, its state alone: a bit, and bits straight.
-/
namespace Go.Proofs.Ytdnkoeafnnohnaa
open Go.RowKit

/-- Block g is the reference's decoder; its state is d. -/
def Rf (w : World) (g : Nat) (A : Option Addr) (c : Nat) (bs : List UInt8) (d : Dc) : Prop :=
  ∃ at_ r k bad, Blk w g 51 (decCells A bs.length c at_ r k bad) ∧ Tells bs d at_ r k bad
theorem Rf.lt {w : World} {g c : Nat} {A : Option Addr} {bs : List UInt8} {d : Dc} (h : Rf w g A c bs d) : g < w.heap.size := by
  obtain ⟨_, _, _, _, hB, _⟩ := h
  exact hB.lt
theorem Rf.only {S : Nat → Prop} {w w' : World} {g c : Nat} {A : Option Addr} {bs : List UInt8} {d : Dc} (h : Rf w g A c bs d) (hb : Only S w w') (hS : ¬ S g) : Rf w' g A c bs d := by
  obtain ⟨at_, r, k, bad, hB, ht⟩ := h
  exact ⟨at_, r, k, bad, hB.only hb hS, ht⟩

/-- What a number told straight leaves. -/
def RnPost (w : World) (g c : Nat) (A : Option Addr) (bs : List UInt8) (v : Nat) (d : Dc) (e : Ending) (w' : World) : Prop :=
  e = .returned (.int .u32 (v : Int)) ∧ Rf w' g A c bs d ∧ w.grownBy w' (some g)

end Go.Proofs.Ytdnkoeafnnohnaa

/-
  How a decoder of ranges begins, as numbers (cut out of RdNew).
-/
namespace Go.Proofs.Ytdnkoeafnnohnaa

/-- behind the first byte and j more -/
def Begun (bs : List UInt8) (j c : Nat) : Prop := j + 1 ≤ bs.length ∧ (bs.getD 0 0).toNat = 0 ∧ c = be ((bs.drop 1).take j)

theorem started_short {bs : List UInt8} (h : bs.length < 5) : started bs = none := by
  unfold started
  split
  · simp only [List.length_cons] at h; omega
  · rfl
theorem started_head {bs : List UInt8} (h : (bs.getD 0 0).toNat ≠ 0) : started bs = none := by
  unfold started
  split
  · rename_i z a b c d t
    rw [if_neg]
    rintro ⟨h1, _⟩
    exact h h1
  · rfl
theorem started_begun {bs : List UInt8} {c : Nat} (h : Begun bs 4 c) : started bs = if c < 4294967295 then some (4294967295, c, bs.drop 5) else none := by
  obtain ⟨h1, h2, h3⟩ := h
  match bs, h1 with
  | z :: a :: b :: x :: d :: t, _ =>
    have e : c = ((a.toNat * 256 + b.toNat) * 256 + x.toNat) * 256 + d.toNat := by rw [h3]; simp [be]
    have hz : z.toNat = 0 := h2
    show (if z.toNat = 0 ∧ ((a.toNat * 256 + b.toNat) * 256 + x.toNat) * 256 + d.toNat < 4294967295 then some (4294967295, ((a.toNat * 256 + b.toNat) * 256 + x.toNat) * 256 + d.toNat, t) else none) = if c < 4294967295 then some (4294967295, c, t) else none
    rw [← e]
    by_cases hc : c < 4294967295
    · rw [if_pos ⟨hz, hc⟩, if_pos hc]
    · rw [if_neg (fun h => hc h.2), if_neg hc]
theorem begun_next {bs : List UInt8} {j c : Nat} {x : UInt8} {t : List UInt8} (h : Begun bs j c) (hd : bs.drop (j + 1) = x :: t) : Begun bs (j + 1) (c * 256 + x.toNat) := by
  obtain ⟨h1, h2, h3⟩ := h
  have hlt : j + 1 < bs.length := by
    rcases Nat.lt_or_ge (j + 1) bs.length with h | h
    · exact h
    · rw [List.drop_eq_nil_of_le h] at hd; cases hd
  have hx : bs[j + 1] = x := by
    have := List.drop_eq_getElem_cons hlt
    rw [hd] at this
    injection this with this
    exact this.symm
  refine ⟨hlt, h2, ?_⟩
  have hl : j < (bs.drop 1).length := by rw [List.length_drop]; omega
  rw [List.take_succ_eq_append_getElem hl, be_snoc, ← h3, List.getElem_drop]
  congr 2
  rw [← hx]
  congr 1
  simp only [Nat.add_comm]
theorem begun_lt {bs : List UInt8} {j c : Nat} (h : Begun bs j c) : c < 256 ^ j := by
  rw [h.2.2]
  refine be_lt _ _ ?_
  rw [List.length_take, List.length_drop]
  have := h.1
  omega

theorem info_u16 : (Try.prog.info? 46).map (fun i => (i.zero, i.size, i.bytes)) = some (some (.int .u16 0), 1, 2) := by kernel_rfl
end Go.Proofs.Ytdnkoeafnnohnaa

/-
  The reference's probabilities begin.
-/
namespace Go.Proofs.Ytdnkoeafnnohnaa
open Go.RowKit

set_option maxHeartbeats 2000000 in
theorem reffresh_any {n : Nat} (hn : n ≤ 100000000) (w : World) :
    Calls Try.prog 20 #[.int .i64 (n : Int)] w fun e w' =>
      ∃ A' c', e = .returned (.slice A' n c') ∧ w'.ownsRow w.heap.size 46 1 (.slice A' n c') n (pv (List.replicate n 1024)) ∧ Below w.heap.size w w' := by
  obtain ⟨i2, hi2, hy0, hy1, hy2⟩ := info_parts (show (Try.prog.info? 46).map (fun i => (i.zero, i.size, i.bytes)) = some (some (.int .u16 0), 1, 2) from by kernel_rfl)
  go_enter Try.func20, Try.ntmps20
  go_wp2_with fail
  go_loopw [3, 4] (fun p i wr => ∃ (j : Nat) (A2 : Option Addr) (c2 : Nat), j ≤ n ∧ i = .int .i64 (j : Int) ∧ p = .slice A2 j c2 ∧ wr.ownsRow w.heap.size 46 1 (.slice A2 j c2) j (pv (List.replicate j 1024)) ∧ Below w.heap.size w wr) (fun _ i _ => n - (intOf i).toNat)
  case atStart => exact ⟨0, none, 0, by omega, rfl, rfl, World.ownsRow_nil w _ _ 1, Below.refl _ _⟩
  case round =>
    obtain ⟨j, A2, c2, hj, rfl, rfl, ho, hb⟩ := hrel
    have HO := Lib.hid ho
    have HB := Lib.hid hb
    clear ho hb
    by_cases hlt : j < n
    · have hlt' : (j : Int) < (n : Int) := by omega
      go_wp2_with (at_builtin; refine wpList_app _ rfl (.tmp 10) (.tmp 11) 43 rfl w.heap.size 46 i2 _ 2 Try.underlying43 hi2 hy0 hy1 hy2 rfl _ j _ rfl (HO.out.alloc _) _ 1 1 _ rfl (sl_one _ _ _) (one_one _ _) (by omega) (by omega) (by have := HB.out.size; simp; omega) ?_)
      intro A3 c3 w3 ho hg
      have HB3 := Lib.hid ((HB.out.alloc HB.out.size _).grown hg (by have := HB.out.size; simp; omega) (fun b e => (HO.out.lt b e).1))
      have ho3 : w3.ownsRow w.heap.size 46 1 (.slice A3 (j + 1) c3) (j + 1) (pv (List.replicate (j + 1) 1024)) := by
        rw [List.replicate_succ']
        have e : pv (List.replicate j 1024 ++ [1024]) = pv (List.replicate j 1024) ++ [.int .u16 1024] := by simp [pv]
        rw [e]
        exact ho
      have HO3 := Lib.hid ho3
      clear ho hg ho3
      go_wp2
      go_roundw
      case rel => exact ⟨j + 1, A3, c3, by omega, by go_num, rfl, HO3.out, HB3.out⟩
      case measure => simp [intOf]; omega
    · obtain rfl : j = n := by omega
      go_wp2_with fail
      go_ret
      exact ⟨A2, c2, rfl, HO.out, HB.out⟩
end Go.Proofs.Ytdnkoeafnnohnaa

/-
  The reference's decoder begins; its fresh probabilities (cut out of RdSaid, RdFresh).
-/
namespace Go.Proofs.Ytdnkoeafnnohnaa
open Go.RowKit

/-- What a byte that is asked for is, and leaves. -/
def Nexted (bs : List UInt8) (at_ : Nat) (bad : Bool) (x at' : Nat) (bad' : Bool) : Prop :=
  (bad' = false ∧ bad = false ∧ at' = at_ + 1 ∧ ∃ y : UInt8, x = y.toNat ∧ bs.drop at_ = y :: bs.drop at') ∨ (bad' = true ∧ x = 0 ∧ (bad = true ∨ bs.drop at_ = []) ∧ at' = at_)

def OnWayR (w : World) (g c : Nat) (A : Option Addr) (bs : List UInt8) (j : Nat) : Prop :=
  ∃ at_ k bad, Blk w g 51 (decCells A bs.length c at_ 4294967295 k bad) ∧ at_ ≤ bs.length ∧ k < 256 ^ j ∧ ((bad = true ∧ started bs = none) ∨ (bad = false ∧ at_ = j + 1 ∧ Begun bs j k))

end Go.Proofs.Ytdnkoeafnnohnaa
