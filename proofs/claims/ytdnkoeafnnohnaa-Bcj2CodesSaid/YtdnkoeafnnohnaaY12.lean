/-
  B2Cod, B2Sim: put together.
-/
import Derived.Test.YtdnkoeafnnohnaaY08
import Derived.Test.YtdnkoeafnnohnaaY09
import Derived.Test.YtdnkoeafnnohnaaY11
import Derived.Deep.WholeRow
import Derived.Test.YtdnkoeafnnohnaaY02
set_option linter.unusedVariables false
set_option linter.unusedSimpArgs false
/-
  The program's Code: the walk.
-/
namespace Go.Proofs.Ytdnkoeafnnohnaa
open Go.RowKit

/-- a coder's zero -/
def zc2 : Array Value := (.pointer none :: (List.replicate 258 (Value.int .u16 0) ++ [Value.slice none 0 0, .slice none 0 0, .slice none 0 0, .slice none 0 0])).toArray
theorem zc2_size : zc2.size = 263 := by decide +kernel
theorem coder_zero (W : World) : (zeroValue 56).run Try.prog W = .ok (.agg zc2) W := by kernel_rfl
theorem coder_info : (Try.prog.info? 56).map (·.size) = some 263 := by kernel_rfl
theorem zc2_one (v : Option Addr) : (zc2.setIfInBounds 0 (.pointer v)).all (·.oneCell') = true := by
  rw [Array.all_eq_true]
  intro i hi
  have h : zc2.all (·.oneCell') = true := by decide +kernel
  rw [Array.all_eq_true] at h
  rw [Array.getElem_setIfInBounds (by rw [Array.size_setIfInBounds] at hi; exact hi)]
  split
  · rfl
  · exact h i (by rw [Array.size_setIfInBounds] at hi; exact hi)
theorem coder_store (w : World) (v : Option Addr) : (storeCells ⟨w.heap.size, 0, none⟩ (zc2.toList.set 0 (.pointer v)) 0).run Try.prog (w.alloc (.cells zc2 56)) = .ok () (w.alloc (.cells (zc2.setIfInBounds 0 (.pointer v)) 56)) := by
  have := run_storeCells_new (P := Try.prog) w 56 zc2 (zc2.setIfInBounds 0 (.pointer v)) (by rw [coder_info, Array.size_setIfInBounds, zc2_size]) (by rw [Array.size_setIfInBounds]) (zc2_one v)
  rwa [Array.toList_setIfInBounds] at this
theorem zc2_far {i : Nat} (h : 259 ≤ i) (h2 : i < 263) : zc2[i]? = some (.slice none 0 0) := by
  have : i = 259 ∨ i = 260 ∨ i = 261 ∨ i = 262 := by omega
  rcases this with rfl | rfl | rfl | rfl <;> (show _ = _; kernel_rfl)
def V0 : Nat → Value := fun _ => .slice none 0 0

theorem cdb_new {W : World} {K g : Nat} {l : List Nat} (hL : l = List.replicate 258 1024) (hB : Blk W K 56 (zc2.setIfInBounds 0 (.pointer (some ⟨g, 0, none⟩)))) :
    CdB (W.setCells K 1 (pv l)) K g V0 l ∧ Only (fun i => i = K) W (W.setCells K 1 (pv l)) := by
  have hl0 : l.length = 258 := by rw [hL, List.length_replicate]
  have hl : (pv l).length = 258 := by rw [pv_length, hl0]
  have hz := zc2_size
  obtain ⟨cs, b1, b2, b3, b4, b5⟩ := blk_cells (pv l) 1 W _ hB (by rw [hl, Array.size_setIfInBounds, hz]; decide)
  rw [Array.size_setIfInBounds, hz] at b2
  rw [hl] at b3 b4
  refine ⟨⟨hl0, cs, b1, b2, fun i hi => ?_⟩, b5⟩
  by_cases h0 : i = 0
  · subst h0
    rw [b4 0 (by omega), Array.getElem?_setIfInBounds, if_pos rfl, if_pos (by omega)]
    rfl
  by_cases h5 : i < 259
  · have h6 := b3 (i - 1) (by omega)
    rw [show 1 + (i - 1) = i by omega, pv_get _ _ (by rw [hl0]; omega)] at h6
    rw [h6]
    unfold cdc
    rw [if_neg h0, if_pos h5]
  · rw [b4 i (by omega), Array.getElem?_setIfInBounds, if_neg (by omega), zc2_far (by omega) hi]
    unfold cdc
    rw [if_neg h0, if_neg h5]
    rfl
theorem copy_freshC {W : World} {K r g : Nat} {l : List Nat} (hL : l = List.replicate 258 1024) (hB : Blk W K 56 (zc2.setIfInBounds 0 (.pointer (some ⟨g, 0, none⟩)))) (hR : Row W r l 258) :
    (Builtin.copy_ #[43, 43] 3 #[.slice (some ⟨K, 1, none⟩) 258 258, .slice (some ⟨r, 0, none⟩) 258 258]).run Try.prog W = .ok (goInt 258) (W.setCells K 1 (pv l)) := by
  have hl0 : l.length = 258 := by rw [hL, List.length_replicate]
  have hl : (pv l).length = 258 := by rw [pv_length, hl0]
  have hz := zc2_size
  have := run_copy_cells (P := Try.prog) W 43 43 3 46 K 1 258 258 ⟨r, 0, none⟩ 258 258 (pv l) Try.underlying43 info_u16' (by rw [hl]; rfl) (fun j v hv => by
    have hj : j < 258 := by have := (List.getElem?_eq_some_iff.1 hv).1; rwa [hl] at this
    rw [show (⟨r, 0, none⟩ : Addr).add j = ⟨r, j, none⟩ by unfold Addr.add; by_cases h0 : j = 0 <;> simp [h0]]
    rw [hR.cell (by rw [hl0]; exact hj), ← hv, pv_get _ _ (by rw [hl0]; exact hj)]) (fun j hj => by
    rw [hl] at hj
    rw [hB.cell, Array.getElem?_eq_getElem (by rw [Array.size_setIfInBounds, hz]; omega)]
    rfl) (fun j _ => hB.free _) (by
    intro u hu
    obtain ⟨_, _, rfl⟩ := List.mem_map.1 hu
    rfl)
  rw [hl] at this
  exact this

/-- one of four, by its number -/
def pick4 {α : Type} (a b c d : α) : Nat → α
  | 0 => a
  | 1 => b
  | 2 => c
  | _ => d
/-- what Code leaves -/
def CodePost (w : World) (b : List UInt8) (x : Ending) (w' : World) : Prop :=
  ∃ A' c' l, x = .returned (.agg (fourA A' c' l)) ∧ Below w.heap.size w w' ∧ FourOk w' A' c' l ∧
    (l 0 = (enc b b.length 0 (List.replicate 258 1024) En.new).main ∧ l 1 = (enc b b.length 0 (List.replicate 258 1024) En.new).call ∧ l 2 = (enc b b.length 0 (List.replicate 258 1024) En.new).jump ∧
      be (l 3) = (enc b b.length 0 (List.replicate 258 1024) En.new).e.n ∧ (l 3).length = (enc b b.length 0 (List.replicate 258 1024) En.new).e.l)

set_option maxRecDepth 100000 in
set_option maxHeartbeats 8000000 in
theorem b2code_any {w : World} {A : Option Addr} {c : Nat} {b : List UInt8} (hS : Sl w A b.length (bv b)) (hc : b.length ≤ c) (hn : b.length ≤ 16384) :
    Calls Try.prog 13 #[.slice A b.length c] w (CodePost w b) := by
  have hz := coder_zero
  have hzs := zc2_size
  have hyn : ¬ zc2 = #[] := fun h => by rw [h] at hzs; exact absurd hzs (by decide)
  have KN := Lib.hid (fun W => cnew_any W)
  obtain ⟨wA, hwA⟩ : ∃ wA, wA = w.alloc (.cells #[.slice none 0 0, .slice none 0 0, .slice none 0 0, .slice none 0 0] 24) := ⟨_, rfl⟩
  obtain ⟨wB, hwB⟩ : ∃ wB, wB = wA.alloc (.cells (pcCells 0 4294967295 (.slice none 0 0) 0 0) 78) := ⟨_, rfl⟩
  have hsA : wA.heap.size = w.heap.size + 1 := by rw [hwA]; simp
  have hsB : wB.heap.size = w.heap.size + 1 + 1 := by rw [hwB]; simp [hsA]
  have hst := coder_store wB (some ⟨w.heap.size + 1, 0, none⟩)
  rw [hsB] at hst
  obtain ⟨l, hL⟩ : ∃ l, l = List.replicate 258 1024 := ⟨_, rfl⟩
  have KF := Lib.hid (fun W => (show Calls Try.prog 24 #[.int .i64 258] W (fun e w' => e = .returned (.slice (some ⟨W.heap.size, 0, none⟩) 258 258) ∧ Row w' W.heap.size (List.replicate 258 1024) 258 ∧ Below W.heap.size W w') from fresh_any (n := 258) (by decide) W))
  rw [← hL] at KF
  have hB3 : Blk (wB.alloc (.cells (zc2.setIfInBounds 0 (.pointer (some ⟨w.heap.size + 1, 0, none⟩))) 56)) (w.heap.size + 1 + 1) 56 (zc2.setIfInBounds 0 (.pointer (some ⟨w.heap.size + 1, 0, none⟩))) := by
    have := Blk.fresh wB 56 (zc2.setIfInBounds 0 (.pointer (some ⟨w.heap.size + 1, 0, none⟩)))
    rw [hsB] at this
    exact this
  have HB3 := Lib.hid hB3
  have HAB := Lib.hid (And.intro hwA (And.intro hwB (And.intro hsA hsB)))
  have HS := Lib.hid (And.intro hS (And.intro hc hn))
  have HL := Lib.hid hL
  have HCF := Lib.hid (fun (W : World) (r : Nat) (hB : Blk W (w.heap.size + 1 + 1) 56 (zc2.setIfInBounds 0 (.pointer (some ⟨w.heap.size + 1, 0, none⟩)))) (hR : Row W r l 258) => copy_freshC hL hB hR)
  have HNB := Lib.hid (fun (W : World) (hB : Blk W (w.heap.size + 1 + 1) 56 (zc2.setIfInBounds 0 (.pointer (some ⟨w.heap.size + 1, 0, none⟩)))) => cdb_new hL hB)
  rw [hwB, hwA] at hst
  clear hB3 hS hc hn hL hsA hsB
  generalize zc2 = Z at *
  go_enter Try.func13, Try.ntmps13
  go_wp2_with fail
  refine (KN.out _).mono ?_
  rintro x w1 ⟨rfl, rfl⟩
  clear KN
  go_wp2_with fail
  rw [← HAB.out.1, ← HAB.out.2.1]
  clear hwA hwB hst
  have HO3 := Lib.hid (show Only (fun _ => False) wA (wB.alloc (.cells (Z.setIfInBounds 0 (.pointer (some ⟨w.heap.size + 1, 0, none⟩))) 56)) from by
    rw [HAB.out.2.1]
    exact ((Only.refl _ wA).alloc _).alloc _)
  have HG3 := Lib.hid (show Blk (wB.alloc (.cells (Z.setIfInBounds 0 (.pointer (some ⟨w.heap.size + 1, 0, none⟩))) 56)) (w.heap.size + 1) 78 (pcCells 0 4294967295 (.slice none 0 0) 0 0) from by
    have h := Blk.fresh wA 78 (pcCells 0 4294967295 (.slice none 0 0) 0 0)
    rw [HAB.out.2.2.1, ← HAB.out.2.1] at h
    exact h.alloc _)
  generalize wB.alloc (.cells (Z.setIfInBounds 0 (.pointer (some ⟨w.heap.size + 1, 0, none⟩))) 56) = w3 at *
  go_region_held3 (fun _ => True) (first | trivial | assumption | go_keep) (first | (go_at_call 24; refine (KF.out _).mono ?_; rintro e w4 ⟨rfl, hr4, hb4⟩; have hB4 := Blk.below (HB3.out.drewN _) hb4; have hcp := HCF.out w4 w3.heap.size hB4 hr4; have HB4 := Lib.hid (And.intro hB4 hb4); clear hB4 hb4 hr4))
  obtain ⟨hB4, hb4⟩ := HB4.out
  obtain ⟨hcd, hok⟩ := HNB.out w4 hB4
  have hl258 : l.length = 258 := by rw [HL.out, List.length_replicate]
  have hCd : Cd wA (w4.setCells (w.heap.size + 1 + 1) 1 (pv l)) (w.heap.size + 1 + 1) (w.heap.size + 1) none V0 (fun _ => []) l En.new := by
    have h34 : Only (fun _ => False) w3 w4 := (Only.of_below hb4).of_drew
    have hO := (HO3.out.trans h34).mono (S' := fun i => i = w.heap.size + 1 + 1) (fun _ h => h.elim)
    have hO5 := hO.trans hok
    have hg5 : Blk (w4.setCells (w.heap.size + 1 + 1) 1 (pv l)) (w.heap.size + 1) 78 (pcCells 0 4294967295 (.slice none 0 0) 0 0) := (HG3.out.only h34 (fun h => h)).only hok (fun h => by omega)
    have hA := HAB.out.2.2.1
    refine ⟨hcd, ⟨Co.new, ⟨none, 0, hg5, World.ownsRow_nil _ _ _ 1, rfl, by simp⟩, coN_new⟩, enOk_new, fun p hp => by rw [HL.out] at hp; rw [List.eq_of_mem_replicate hp]; exact pOk_fresh, fun k _ => World.ownsRow_nil _ _ _ 1, rfl, hO5.below (Nat.le_refl _) (fun i hi => by omega), ⟨by omega, by omega, fun i hi => by cases hi⟩, ⟨by omega, by simp⟩, fun k _ q hq => by cases hq⟩
  have HCD := Lib.hid hCd
  have HSA := Lib.hid (show Sl wA A b.length (bv b) from HS.out.1.below (by rw [HAB.out.1]; exact (Below.refl _ _).alloc (Nat.le_refl _) _))
  have HBX := Lib.hid (show Blk wA w.heap.size 24 #[.slice none 0 0, .slice none 0 0, .slice none 0 0, .slice none 0 0] from by rw [HAB.out.1]; exact Blk.fresh _ _ _)
  obtain ⟨T, hT⟩ : ∃ T, T = totE (fun _ => []) (enc b b.length 0 l En.new) := ⟨_, rfl⟩
  have HT := Lib.hid hT
  clear hB4 hb4 hcd hok hl258 hCd HB4 HB3 HO3 HG3 HCF HNB KF hT hcp
  generalize w4.setCells (w.heap.size + 1 + 1) 1 (pv l) = w5 at *
  obtain ⟨K, hK⟩ : ∃ K, K = w.heap.size + 1 + 1 := ⟨_, rfl⟩
  obtain ⟨g, hg⟩ : ∃ g, g = w.heap.size + 1 := ⟨_, rfl⟩
  rw [← hK, ← hg] at HCD
  go_wp2_with fail
  rw [← hK]
  have HKG := Lib.hid (And.intro hK hg)
  clear hK hg
  go_loopw [4] (fun i wr => ∃ (iN : Nat) (G : Option Nat) (V : Nat → Value) (R : Nat → List UInt8) (ps : List Nat) (e : En) (f : Nat), i = .int .i64 (iN : Int) ∧ iN ≤ b.length ∧ b.length - iN ≤ f ∧ Cd wA wr K g G V R ps e ∧ totE R (enc b f iN ps e) = T ∧ sumR R = iN ∧ e.l ≤ 5 + iN) (fun i _ => b.length - (intOf i).toNat)
  case atStart => exact ⟨0, none, V0, fun _ => [], l, En.new, b.length, rfl, Nat.zero_le _, by omega, HCD.out, HT.out.symm, rfl, Nat.le_refl _⟩
  case round =>
    obtain ⟨iN, G, V, R, ps, e, f, rfl, hi, hf, hC, hT, hs, hl⟩ := hrel
    clear HCD
    by_cases hlt : iN < b.length
    · have hlt' : (iN : Int) < (b.length : Int) := by omega
      obtain ⟨f, rfl⟩ : ∃ f', f = f' + 1 := ⟨f - 1, by omega⟩
      have KS := Lib.hid (b2step_any hC HSA.out HS.out.2.1 hlt HS.out.2.2 (by have := HS.out.2.2; omega) (by have := HS.out.2.2; omega))
      have HJ := Lib.hid (And.intro hf (And.intro hT (And.intro hs hl)))
      have i2 : (b.length : Int) ≤ 16384 := by have := HS.out.2.2; omega
      clear hC hf hT hs hl hi
      go_wp2_with fail
      refine KS.out.mono ?_
      rintro x w6 ⟨d, G', V', R', ps', e', rfl, h1, h2, h3, h4, h5, h6⟩
      have HN := Lib.hid (And.intro h3 (And.intro h4 (And.intro h5 h6)))
      have d1 : (1 : Int) ≤ (d : Int) := by omega
      have d2 : (iN : Int) + (d : Int) ≤ (b.length : Int) := by omega
      clear h3 h4 h5 h6 KS
      go_wp2_with fail
      go_roundw
      case rel =>
        obtain ⟨h3, h4, h5, h6⟩ := HN.out
        obtain ⟨hf, hT, hs, hl⟩ := HJ.out
        exact ⟨iN + d, G', V', R', ps', e', f, by go_num, h2, by omega, h3, by rw [← h6]; exact hT, by rw [h5, hs], by omega⟩
      case measure => simp [intOf]; omega
    · obtain rfl : iN = b.length := by omega
      have hnl : ¬ (b.length : Int) < (b.length : Int) := by omega
      have KFi := Lib.hid (finish_any hC.pn (by have := HS.out.2.2; omega))
      have c0 := hC.blk.bits
      rw [enc_end (Nat.lt_irrefl _)] at hT
      have HE := Lib.hid (And.intro hC (And.intro hT (And.intro hs hl)))
      clear hC hT hs hl hi hf hlt
      go_wp2_with fail
      refine KFi.out.mono ?_
      rintro x w6 ⟨A3, m3, bs, rfl, ho6, hbe, hble, hnw, hng, _, hO6⟩
      obtain ⟨hC, hT, hs, hl⟩ := HE.out
      have hkk : ¬ pset g G K := fun h => by
        rcases h with h | h
        · exact hC.kg.1 h
        · exact hC.kg.2 h
      have hB6 := hC.blk.only hO6 hkk
      have d3 := hB6.out (k := 3) (by decide)
      have z3 := hB6.free 262
      have hB7 := hB6.putV (k := 3) (by decide) (.slice A3 bs.length m3)
      have hO7 := (Only.refl (fun i => i = K) w6).setCell (p := ⟨K, 262, none⟩) (.inl rfl) (.slice A3 bs.length m3)
      obtain ⟨Aa, ca, ha, hra⟩ := own_form (hC.row 0 (by decide))
      obtain ⟨Ab, cb, hb, hrb⟩ := own_form (hC.row 1 (by decide))
      obtain ⟨Ac, cc, hcc, hrc⟩ := own_form (hC.row 2 (by decide))
      have y0 : (w6.setCell ⟨K, 262, none⟩ (.slice A3 bs.length m3)).cell? ⟨K, 259, none⟩ = some (.slice Aa (R 0).length ca) := (hB7.out (k := 0) (by decide)).trans (by rw [← ha]; rfl)
      have y1 : (w6.setCell ⟨K, 262, none⟩ (.slice A3 bs.length m3)).cell? ⟨K, 260, none⟩ = some (.slice Ab (R 1).length cb) := (hB7.out (k := 1) (by decide)).trans (by rw [← hb]; rfl)
      have y2 : (w6.setCell ⟨K, 262, none⟩ (.slice A3 bs.length m3)).cell? ⟨K, 261, none⟩ = some (.slice Ac (R 2).length cc) := (hB7.out (k := 2) (by decide)).trans (by rw [← hcc]; rfl)
      have y3 : (w6.setCell ⟨K, 262, none⟩ (.slice A3 bs.length m3)).cell? ⟨K, 262, none⟩ = some (.slice A3 bs.length m3) := hB7.out (k := 3) (by decide)
      have hpl : ∀ i, pset g G i → wA.heap.size ≤ i := fun i hi => by
        rcases hi with hi | hi
        · rw [hi]; exact hC.low.2.1
        · exact hC.low.2.2 i hi
      have hb6 : Below wA.heap.size wA w6 := hC.bel.trans (hO6.below hC.bel.size hpl)
      have hb7 : Below wA.heap.size wA (w6.setCell ⟨K, 262, none⟩ (.slice A3 bs.length m3)) := hb6.trans (hO7.below hb6.size (fun i hi => by rw [hi]; exact hC.low.1))
      have hbx7 : Blk (w6.setCell ⟨K, 262, none⟩ (.slice A3 bs.length m3)) w.heap.size 24 #[.slice none 0 0, .slice none 0 0, .slice none 0 0, .slice none 0 0] := HBX.out.below hb7
      have v0 := hbx7.cell 0
      have v1 := hbx7.cell 1
      have v2 := hbx7.cell 2
      have v3 := hbx7.cell 3
      have u0 := hbx7.free 0
      have u1 := hbx7.free 1
      have u2 := hbx7.free 2
      have u3 := hbx7.free 3
      have hsl : ∀ {v : Value} {n : Nat} {xs : List Value} {base : Nat} {Az : Option Addr} {cz : Nat}, v = .slice Az n cz → wr.ownsRow base 5 1 v n xs → (∀ q, v.ownBlock = some q → q ≠ K ∧ q ≠ g ∧ G ≠ some q) → (w6.setCell ⟨K, 262, none⟩ (.slice A3 bs.length m3)).ownsRow base 5 1 (.slice Az n cz) n xs := by
        intro v n xs base Az cz hv hr hq
        rw [← hv]
        refine own_onlyC (own_onlyC hr hO6 (fun q hq' hs => ?_)) hO7 (fun q hq' hs => (hq q hq').1 hs)
        rcases hs with hs | hs
        · exact (hq q hq').2.1 hs
        · exact (hq q hq').2.2 hs
      have r0 := hsl rfl hra (fun q hq => by have := hC.off 0 (by decide) q (by rw [ha]; exact hq); exact ⟨this.1, this.2.1, this.2.2.1⟩)
      have r1 := hsl rfl hrb (fun q hq => by have := hC.off 1 (by decide) q (by rw [hb]; exact hq); exact ⟨this.1, this.2.1, this.2.2.1⟩)
      have r2 := hsl rfl hrc (fun q hq => by have := hC.off 2 (by decide) q (by rw [hcc]; exact hq); exact ⟨this.1, this.2.1, this.2.2.1⟩)
      have r3 : (w6.setCell ⟨K, 262, none⟩ (.slice A3 bs.length m3)).ownsRow 0 5 1 (.slice A3 bs.length m3) bs.length (bv bs) := own_onlyC ho6 hO7 (fun q hq hs => by
        rcases hnw q hq with h1 | h1
        · exact hC.kg.2 (h1.trans (by rw [hs]))
        · have h2 := hC.blk.lt
          have hs' : q = K := hs
          omega)
      have r4 : ∀ q, (Value.slice A3 bs.length m3).ownBlock = some q → wA.heap.size ≤ q := fun q hq => by
        rcases hnw q hq with h1 | h1
        · exact hC.low.2.2 q h1
        · exact Nat.le_trans hC.bel.size h1
      have HR := Lib.hid (And.intro r0 (And.intro r1 (And.intro r2 (And.intro r3 (And.intro r4 hb7)))))
      have HFI := Lib.hid (And.intro hT (And.intro hs (And.intro hl (And.intro hbe hble))))
      clear ho6 hbe hble hnw hng hO6 hkk hB6 hB7 hO7 ha hra hb hrb hcc hrc hpl hb6 hb7 hbx7 hsl r0 r1 r2 r3 hC hT hs hl KFi c0
      go_wp2_with fail
      obtain ⟨r0, r1, r2, r3, r4, hb7⟩ := HR.out
      obtain ⟨hT, hs, hl, hbe, hble⟩ := HFI.out
      have hsA := HAB.out.2.2.1
      clear y0 y1 y2 y3 v0 v1 v2 v3 u0 u1 u2 u3 d3 z3
      generalize w6.setCell ⟨K, 262, none⟩ (.slice A3 bs.length m3) = w7 at *
      have hO8 : Only (fun i => i = w.heap.size) w7 ((((w7.setCell ⟨w.heap.size, 0, none⟩ (.slice Aa (R 0).length ca)).setCell ⟨w.heap.size, 1, none⟩ (.slice Ab (R 1).length cb)).setCell ⟨w.heap.size, 2, none⟩ (.slice Ac (R 2).length cc)).setCell ⟨w.heap.size, 3, none⟩ (.slice A3 bs.length m3)) :=
        ((((Only.refl (fun i => i = w.heap.size) w7).setCell (p := ⟨w.heap.size, 0, none⟩) (.inl rfl) _).setCell (p := ⟨w.heap.size, 1, none⟩) (.inl rfl) _).setCell (p := ⟨w.heap.size, 2, none⟩) (.inl rfl) _).setCell (p := ⟨w.heap.size, 3, none⟩) (.inl rfl) _
      have hB8 := ((((HBX.out.below hb7).put 0 (.slice Aa (R 0).length ca)).put 1 (.slice Ab (R 1).length cb)).put 2 (.slice Ac (R 2).length cc)).put 3 (.slice A3 bs.length m3)
      generalize ((((w7.setCell ⟨w.heap.size, 0, none⟩ (.slice Aa (R 0).length ca)).setCell ⟨w.heap.size, 1, none⟩ (.slice Ab (R 1).length cb)).setCell ⟨w.heap.size, 2, none⟩ (.slice Ac (R 2).length cc)).setCell ⟨w.heap.size, 3, none⟩ (.slice A3 bs.length m3)) = w8 at *
      have k0 : w8.cell? ⟨w.heap.size, 0, none⟩ = some (.slice Aa (R 0).length ca) := hB8.cell 0
      have k1 : w8.cell? ⟨w.heap.size, 1, none⟩ = some (.slice Ab (R 1).length cb) := hB8.cell 1
      have k2 : w8.cell? ⟨w.heap.size, 2, none⟩ = some (.slice Ac (R 2).length cc) := hB8.cell 2
      have k3 : w8.cell? ⟨w.heap.size, 3, none⟩ = some (.slice A3 bs.length m3) := hB8.cell 3
      refine bodyPost_ret (v := .agg #[.slice Aa (R 0).length ca, .slice Ab (R 1).length cb, .slice Ac (R 2).length cc, .slice A3 bs.length m3]) (by simp [results, Try.results13, go_sem, k0, k1, k2, k3]) rfl ?_
      have f0 := own_facts (own_onlyC r0 hO8 (fun q hq hs' => by have := (own_atC r0 hq).1; have hs' : q = w.heap.size := hs'; omega))
      have f1 := own_facts (own_onlyC r1 hO8 (fun q hq hs' => by have := (own_atC r1 hq).1; have hs' : q = w.heap.size := hs'; omega))
      have f2 := own_facts (own_onlyC r2 hO8 (fun q hq hs' => by have := (own_atC r2 hq).1; have hs' : q = w.heap.size := hs'; omega))
      have f3 := own_facts (own_onlyC r3 hO8 (fun q hq hs' => by have := r4 q hq; have hs' : q = w.heap.size := hs'; omega))
      have hbW : Below w.heap.size w w7 := by
        have h1 : Below w.heap.size w wA := by rw [HAB.out.1]; exact (Below.refl _ _).alloc (Nat.le_refl _) _
        exact h1.trans (hb7.mono (by omega))
      have hn := HS.out.2.2
      unfold sumR at hs
      refine ⟨pick4 Aa Ab Ac A3, pick4 ca cb cc m3, pick4 (R 0) (R 1) (R 2) bs, rfl, hbW.trans (hO8.below hbW.size (fun i hi => by have hi : i = w.heap.size := hi; omega)), ⟨fun i hi => ?_, fun i hi => ?_, fun i hi => ?_⟩, ?_⟩
      · have : i = 0 ∨ i = 1 ∨ i = 2 ∨ i = 3 := by omega
        rcases this with rfl | rfl | rfl | rfl
        · exact f0.1
        · exact f1.1
        · exact f2.1
        · exact f3.1
      · have : i = 0 ∨ i = 1 ∨ i = 2 ∨ i = 3 := by omega
        rcases this with rfl | rfl | rfl | rfl
        · exact ⟨f0.2.1, f0.2.2.1⟩
        · exact ⟨f1.2.1, f1.2.2.1⟩
        · exact ⟨f2.2.1, f2.2.2.1⟩
        · exact ⟨f3.2.1, f3.2.2.1⟩
      · have : i = 0 ∨ i = 1 ∨ i = 2 ∨ i = 3 := by omega
        rcases this with rfl | rfl | rfl | rfl
        · show (R 0).length ≤ _; omega
        · show (R 1).length ≤ _; omega
        · show (R 2).length ≤ _; omega
        · show bs.length ≤ _; omega
      · rw [← HL.out]
        rw [HT.out] at hT
        unfold totE at hT
        simp only [List.append_nil, List.nil_append, Prod.mk.injEq] at hT
        obtain ⟨q0, q1, q2, q3⟩ := hT
        exact ⟨q0, q1, q2, by rw [← q3]; exact hbe, by rw [← q3]; exact hble⟩
end Go.Proofs.Ytdnkoeafnnohnaa

/-
  What the filter tells byte by byte is what the document tells of the streams.
-/
namespace Go.Proofs.Ytdnkoeafnnohnaa

theorem bitD_zero {d : Dc} {p : Nat} (h : (bitD d p).2.2 = none) : (bitD d p).1 = 0 := by
  cases d with
  | none => rfl
  | some x =>
    obtain ⟨r, c, s⟩ := x
    by_cases hc : c < r / 2048 * p
    · have e : bitD (some (r, c, s)) p = (0, up0 p, lvl (r / 2048 * p) c s) := if_pos hc
      rw [e]
    · have e : bitD (some (r, c, s)) p = (match lvl (r - r / 2048 * p) (c - r / 2048 * p) s with
        | none => (0, up1 p, none)
        | some t => (1, up1 p, some t)) := if_neg hc
      rw [e] at h ⊢
      cases hl : lvl (r - r / 2048 * p) (c - r / 2048 * p) s with
      | none => rfl
      | some t => rw [hl] at h; cases h

def B2.aft (s : B2) (d : Dc) (q : Nat) : B2 := { s.shut with d := d, ps := s.ps.set s.num q }
def B2.k (s : B2) : K2 := ⟨s.src 1, s.src 2, s.d, s.ps⟩
/-- what holds between what was told and the filter -/
structure B2In (size : Nat) (s : B2) (out : List UInt8) : Prop where
  told : s.told = wr32 out.length
  left : s.left = size - out.length
  le : out.length ≤ size
  wait : 0 < s.waits → s.opn = false ∧ s.waits ≤ s.left
/-- what will have been told, where no bit is to be decoded -/
def ansM (size : Nat) (s : B2) (out : List UInt8) : Option (List UInt8) :=
  if s.bad = true then none
  else if 0 < s.waits then goR size (s.src 0) s.k (out ++ leB s.target s.waits) (lastB s.ahead s.target s.waits)
  else goR size (s.src 0) s.k out s.ahead
def ansO (size : Nat) (s : B2) (out : List UInt8) : Option (List UInt8) :=
  match bitB size s.k out s.num s.ahead with
  | none => none
  | some (k', o', a') => goR size (s.src 0) k' o' a'
def ansB (size : Nat) (s : B2) (out : List UInt8) : Option (List UInt8) :=
  if s.bad = true then none
  else if s.opn = true ∧ out.length ≠ size then ansO size s out
  else ansM size s out
/-- bytes that may still be told -/
def B2.mu (s : B2) : Nat := (s.src 0).length + (s.src 1).length + (s.src 2).length + s.waits

section
variable {size : Nat} {s : B2} {out : List UInt8}
theorem not_bad (h : s.bad = false) : s.dead = false ∧ ∃ r, s.d = some r := by
  unfold B2.bad at h
  rw [Bool.or_eq_false_iff] at h
  refine ⟨h.1, ?_⟩
  cases hd : s.d with
  | none => rw [hd] at h; cases h.2
  | some r => exact ⟨r, rfl⟩
theorem bad_d (h : s.d = none) : s.bad = true := by unfold B2.bad; rw [h]; simp
theorem bad_dead (h : s.dead = true) : s.bad = true := by unfold B2.bad; rw [h]; simp
theorem bad_some {r : Nat × Nat × List UInt8} (hd : s.dead = false) (h : s.d = some r) : s.bad = false := by unfold B2.bad; rw [hd, h]; rfl

theorem read_cons {k : Nat} {x : UInt8} {t : List UInt8} (hb : s.bad = false) (h : s.src k = x :: t) : s.read k = (x.toNat, { s with src := fun i => if i = k then t else s.src i }) := by
  unfold B2.read
  rw [if_neg (by rw [hb]; simp), h]
theorem read_nil {k : Nat} (hb : s.bad = false) (h : s.src k = []) : s.read k = (0, { s with dead := true }) := by
  unfold B2.read
  rw [if_neg (by rw [hb]; simp), h]
theorem read_bad {k : Nat} (hb : s.bad = true) : s.read k = (0, s) := by
  unfold B2.read
  rw [if_pos hb]
/-- read, and not bad: there was a byte -/
theorem read_good {k : Nat} (h : (s.read k).2.bad = false) : ∃ x t, s.bad = false ∧ s.src k = x :: t ∧ s.read k = (x.toNat, { s with src := fun i => if i = k then t else s.src i }) := by
  cases hb : s.bad with
  | true => rw [read_bad hb] at h; rw [hb] at h; cases h
  | false =>
    cases hs : s.src k with
    | nil => rw [read_nil hb hs] at h; rw [bad_dead rfl] at h; cases h
    | cons x t => exact ⟨x, t, rfl, rfl, read_cons hb hs⟩
theorem many_len {k : Nat} : ∀ j, (B2.many k j (0, s)).2.bad = false → (s.src k).length = ((B2.many k j (0, s)).2.src k).length + j
  | 0, _ => rfl
  | j + 1, h => by
    obtain ⟨x, t, hb, hs, hr⟩ := read_good (s := (B2.many k j (0, s)).2) (k := k) h
    have ih := many_len j hb
    show _ = (((B2.many k j (0, s)).2.read k).2.src k).length + (j + 1)
    rw [hr, ih, hs]
    simp
    omega
theorem many_four {k : Nat} {a b c e : UInt8} {t : List UInt8} (hb : s.bad = false) (h : s.src k = a :: b :: c :: e :: t) :
    B2.many k 4 (0, s) = (((a.toNat * 256 + b.toNat) * 256 + c.toNat) * 256 + e.toNat, { s with src := fun i => if i = k then t else s.src i }) := by
  have h1 := read_cons hb h
  have h2 := read_cons (s := { s with src := fun i => if i = k then b :: c :: e :: t else s.src i }) (k := k) hb (if_pos rfl)
  have h3 := read_cons (s := { s with src := fun i => if i = k then c :: e :: t else (if i = k then b :: c :: e :: t else s.src i) }) (k := k) hb (if_pos rfl)
  have h4 := read_cons (s := { s with src := fun i => if i = k then e :: t else (if i = k then c :: e :: t else (if i = k then b :: c :: e :: t else s.src i)) }) (k := k) hb (if_pos rfl)
  simp only [B2.many, h1, h2, h3, h4]
  refine Prod.ext ?_ ?_
  · simp
  · simp only []
    congr 1
    funext i
    by_cases e : i = k
    · rw [if_pos e, if_pos e]
    · simp only [if_neg e]
theorem take4_some {l : List UInt8} {p : Nat} {t : List UInt8} (h : take4 l = some (p, t)) : ∃ a b c e, l = a :: b :: c :: e :: t ∧ p = ((a.toNat * 256 + b.toNat) * 256 + c.toNat) * 256 + e.toNat := by
  match l, h with
  | a :: b :: c :: e :: t', h =>
    simp only [take4, Option.some.injEq, Prod.mk.injEq] at h
    exact ⟨a, b, c, e, by rw [h.2], h.1.symm⟩

theorem ansM_bad (h : s.bad = true) : ansM size s out = none := by unfold ansM; rw [if_pos h]
theorem ansM_go (h : s.bad = false) (hw : s.waits = 0) : ansM size s out = goR size (s.src 0) s.k out s.ahead := by
  unfold ansM
  rw [if_neg (by rw [h]; simp), if_neg (by omega)]
theorem ansM_wait (h : s.bad = false) (hw : 0 < s.waits) : ansM size s out = goR size (s.src 0) s.k (out ++ leB s.target s.waits) (lastB s.ahead s.target s.waits) := by
  unfold ansM
  rw [if_neg (by rw [h]; simp), if_pos hw]

/-- The bit of an instruction is decided. -/
theorem dec_ans (h : B2In size s out) (hl : s.left ≠ 0) (ho : s.opn = true) (hb : s.bad = false) : ansM size s.dec out = ansO size s out := by
  have hw : s.waits = 0 := by
    rcases Nat.eq_zero_or_pos s.waits with e | e
    · exact e
    · have := (h.wait e).1; rw [ho] at this; cases this
  obtain ⟨hd, r, hr⟩ := not_bad hb
  have hlt : out.length + s.left = size := by have := h.left; have := h.le; omega
  unfold ansO bitB
  show _ = match (match bitD s.d (s.ps.getD s.num 0) with
    | (_, _, none) => none
    | (0, q, some d) => some ((⟨s.src 1, s.src 2, some d, s.ps.set s.num q⟩ : K2), out, s.ahead)
    | (_ + 1, q, some d) =>
      if size < out.length + 4 then none
      else if s.num < 256 then
        match take4 (s.src 1) with
        | none => none
        | some (p, t) => some ((⟨t, s.src 2, some d, s.ps.set s.num q⟩ : K2), out ++ leB (tgt p out.length) 4, lastB s.ahead (tgt p out.length) 4)
      else
        match take4 (s.src 2) with
        | none => none
        | some (p, t) => some ((⟨s.src 1, t, some d, s.ps.set s.num q⟩ : K2), out ++ leB (tgt p out.length) 4, lastB s.ahead (tgt p out.length) 4)) with
    | none => none
    | some (k', o', a') => goR size (s.src 0) k' o' a'
  have hbit : s.shut.bit = ((bitD s.d (s.ps.getD s.num 0)).1, { s.shut with d := (bitD s.d (s.ps.getD s.num 0)).2.2, ps := s.ps.set s.num (bitD s.d (s.ps.getD s.num 0)).2.1 }) := rfl
  have hz := bitD_zero (d := s.d) (p := s.ps.getD s.num 0)
  unfold B2.dec
  rw [if_neg (by rw [hb]; simp), hbit]
  generalize bitD s.d (s.ps.getD s.num 0) = x at *
  obtain ⟨v, q, dd⟩ := x
  cases dd with
  | none =>
    have hv : v = 0 := hz rfl
    subst hv
    simp only [if_true]
    exact ansM_bad (bad_d rfl)
  | some d1 =>
    cases v with
    | zero =>
      simp only [if_true]
      exact ansM_go (bad_some (r := d1) hd rfl) hw
    | succ v =>
      simp only [Nat.add_one_ne_zero, if_false]
      by_cases h4 : s.left < 4
      · rw [if_pos h4, if_pos (by omega)]
        exact ansM_bad (bad_dead rfl)
      · rw [if_neg h4, if_neg (by omega)]
        show ansM size (B2.put4 (s.aft (some d1) q).place) out = _
        have hgb : (s.aft (some d1) q).bad = false := bad_some (r := d1) hd rfl
        have hto : s.told = wr32 out.length := h.told
        by_cases h256 : s.num < 256
        · rw [if_pos h256]
          have hst : (s.aft (some d1) q).strm = 1 := if_pos h256
          have hpl : (s.aft (some d1) q).place = B2.many 1 4 (0, s.aft (some d1) q) := by unfold B2.place; rw [hst]
          cases ht : take4 (s.src 1) with
          | none =>
            refine ansM_bad ?_
            cases hbb : (B2.put4 (s.aft (some d1) q).place).bad with
            | true => rfl
            | false =>
              have hm : (B2.many 1 4 (0, (s.aft (some d1) q))).2.bad = false := by rw [← hpl]; exact hbb
              have h1 : (s.src 1).length = _ + 4 := many_len (s := s.aft (some d1) q) 4 hm
              have := take4_none ht
              omega
          | some pt =>
            obtain ⟨p, t⟩ := pt
            obtain ⟨a, b, c, e, hl1, hp⟩ := take4_some ht
            have hm := many_four (s := s.aft (some d1) q) (k := 1) hgb hl1
            rw [hpl, hm, ← hp]
            refine (ansM_wait (s := B2.put4 (p, { (s.aft (some d1) q) with src := fun i => if i = 1 then t else s.src i })) (bad_some (r := d1) hd rfl) (show 0 < 4 by decide)).trans ?_
            show goR size (s.src 0) (⟨t, s.src 2, some d1, s.ps.set s.num q⟩ : K2) (out ++ leB (wr32 (8589934592 + p - s.told - 4)) 4) (lastB s.ahead (wr32 (8589934592 + p - s.told - 4)) 4) = _
            rw [hto]
            rfl
        · rw [if_neg h256]
          have hst : (s.aft (some d1) q).strm = 2 := if_neg h256
          have hpl : (s.aft (some d1) q).place = B2.many 2 4 (0, s.aft (some d1) q) := by unfold B2.place; rw [hst]
          cases ht : take4 (s.src 2) with
          | none =>
            refine ansM_bad ?_
            cases hbb : (B2.put4 (s.aft (some d1) q).place).bad with
            | true => rfl
            | false =>
              have hm : (B2.many 2 4 (0, (s.aft (some d1) q))).2.bad = false := by rw [← hpl]; exact hbb
              have h1 : (s.src 2).length = _ + 4 := many_len (s := s.aft (some d1) q) 4 hm
              have := take4_none ht
              omega
          | some pt =>
            obtain ⟨p, t⟩ := pt
            obtain ⟨a, b, c, e, hl1, hp⟩ := take4_some ht
            have hm := many_four (s := s.aft (some d1) q) (k := 2) hgb hl1
            rw [hpl, hm, ← hp]
            refine (ansM_wait (s := B2.put4 (p, { (s.aft (some d1) q) with src := fun i => if i = 2 then t else s.src i })) (bad_some (r := d1) hd rfl) (show 0 < 4 by decide)).trans ?_
            show goR size (s.src 0) (⟨s.src 1, t, some d1, s.ps.set s.num q⟩ : K2) (out ++ leB (wr32 (8589934592 + p - s.told - 4)) 4) (lastB s.ahead (wr32 (8589934592 + p - s.told - 4)) 4) = _
            rw [hto]
            rfl
end
end Go.Proofs.Ytdnkoeafnnohnaa
