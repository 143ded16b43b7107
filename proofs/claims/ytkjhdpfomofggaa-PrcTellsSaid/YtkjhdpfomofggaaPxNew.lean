/-
  The program's decoder of shares begins.
-/
import Derived.Test.YtkjhdpfomofggaaPxDec
namespace Go.Proofs.Ytkjhdpfomofggaa
open Go.RowKit

/-- behind the first byte and j more -/
def Begun (bs : List UInt8) (j c : Nat) : Prop := j + 1 ≤ bs.length ∧ (bs.getD 0 0).toNat = 0 ∧ c = be ((bs.drop 1).take j)

theorem started_short {bs : List UInt8} (h : bs.length < 5) : started bs = none := by
  unfold started
  split
  · simp only [List.length_cons] at h; omega
  · rfl
theorem started_head {bs : List UInt8} (h : (bs.getD 0 0).toNat ≠ 0) : started bs = none := by
  unfold started
  split
  · rename_i z a b c d t
    rw [if_neg]
    rintro ⟨h1, _⟩
    exact h h1
  · rfl
theorem started_begun {bs : List UInt8} {c : Nat} (h : Begun bs 4 c) : started bs = if c < 4294967295 then some (4294967295, c, bs.drop 5) else none := by
  obtain ⟨h1, h2, h3⟩ := h
  match bs, h1 with
  | z :: a :: b :: x :: d :: t, _ =>
    have e : c = ((a.toNat * 256 + b.toNat) * 256 + x.toNat) * 256 + d.toNat := by rw [h3]; simp [be]
    have hz : z.toNat = 0 := h2
    show (if z.toNat = 0 ∧ ((a.toNat * 256 + b.toNat) * 256 + x.toNat) * 256 + d.toNat < 4294967295 then some (4294967295, ((a.toNat * 256 + b.toNat) * 256 + x.toNat) * 256 + d.toNat, t) else none) = if c < 4294967295 then some (4294967295, c, t) else none
    rw [← e]
    by_cases hc : c < 4294967295
    · rw [if_pos ⟨hz, hc⟩, if_pos hc]
    · rw [if_neg (fun h => hc h.2), if_neg hc]
theorem begun_next {bs : List UInt8} {j c : Nat} {x : UInt8} {t : List UInt8} (h : Begun bs j c) (hd : bs.drop (j + 1) = x :: t) : Begun bs (j + 1) (c * 256 + x.toNat) := by
  obtain ⟨h1, h2, h3⟩ := h
  have hlt : j + 1 < bs.length := by
    rcases Nat.lt_or_ge (j + 1) bs.length with h | h
    · exact h
    · rw [List.drop_eq_nil_of_le h] at hd; cases hd
  have hx : bs[j + 1] = x := by
    have := List.drop_eq_getElem_cons hlt
    rw [hd] at this
    injection this with this
    exact this.symm
  refine ⟨hlt, h2, ?_⟩
  have hl : j < (bs.drop 1).length := by rw [List.length_drop]; omega
  rw [List.take_succ_eq_append_getElem hl, be_snoc, ← h3, List.getElem_drop]
  congr 2
  rw [← hx]
  congr 1
  simp only [Nat.add_comm]
theorem begun_lt {bs : List UInt8} {j c : Nat} (h : Begun bs j c) : c < 256 ^ j := by
  rw [h.2.2]
  refine be_lt _ _ ?_
  rw [List.length_take, List.length_drop]
  have := h.1
  omega

/-- What stands behind the first byte and j shifts. -/
def OnWay (w : World) (g f lo : Nat) (bs : List UInt8) (j : Nat) : Prop :=
  ∃ at_ c bad, Blk w g 62 (pdCells f 4294967295 c bad) ∧ Feed w f lo bs at_ ∧ c < 4294967296 ∧ ((bad = true ∧ started bs = none) ∨ (bad = false ∧ at_ = j + 1 ∧ Begun bs j c))

/-- A shift on the way. -/
theorem onway_any {w : World} {g f lo j : Nat} {bs : List UInt8} (h : OnWay w g f lo bs j) (hfg : f < g) (hj : j < 4) :
    Calls Try.prog 30 #[.pointer (some ⟨g, 0, none⟩)] w fun e w' => e = .returned (.tuple #[]) ∧ OnWay w' g f lo bs (j + 1) ∧ Only (two f g) w w' := by
  obtain ⟨at_, c, bad, hB, hF, hc, h0⟩ := h
  rcases h0 with ⟨rfl, h0⟩ | ⟨rfl, rfl, h0⟩
  · refine (shift_bad hB).mono ?_
    rintro e w' ⟨rfl, rfl⟩
    exact ⟨rfl, ⟨at_, c, true, hB, hF, hc, .inl ⟨rfl, h0⟩⟩, Only.refl _ _⟩
  · have hc4 : c < 16777216 := Nat.lt_of_lt_of_le (begun_lt h0) (Nat.pow_le_pow_right (n := 256) (by omega) (show j ≤ 3 by omega))
    refine (shift_any hB hF hfg hc4).mono ?_
    rintro e w' ⟨rfl, at', c', bad', h1, h2, h3, h4⟩
    refine ⟨rfl, ⟨at', c', bad', h1, h2, ?_, ?_⟩, h3⟩
    · rcases h4 with ⟨_, rfl, _⟩ | ⟨x, _, rfl, _⟩
      · exact hc
      · have := x.toNat_lt; omega
    · rcases h4 with ⟨rfl, rfl, h5⟩ | ⟨x, rfl, rfl, h5⟩
      · refine .inl ⟨rfl, started_short ?_⟩
        have := List.drop_eq_nil_iff.1 h5
        omega
      · refine .inr ⟨rfl, ?_, begun_next h0 h5⟩
        have hl := congrArg List.length h5
        simp only [List.length_cons, List.length_drop] at hl
        have := hF.le
        have := h2.le
        have := (begun_next h0 h5).1
        omega

set_option maxHeartbeats 4000000 in
theorem pnew_any {w : World} {f lo : Nat} {bs : List UInt8} (hF : Feed w f lo bs 0) :
    Calls Try.prog 10 #[.iface 25 (.pointer (some ⟨f, 0, none⟩))] w fun e w' =>
      e = .returned (.pointer (some ⟨w.heap.size, 0, none⟩)) ∧ Pd w' w.heap.size f lo bs (started bs) ∧ Only (fun i => i = f) w w' := by
  have hfg := hF.lt
  have HF := Lib.hid hF
  have hlo := hF.lo
  clear hF
  go_enter Try.func10, Try.ntmps10
  go_wp2_with fail
  have hB0 : Blk (w.alloc (.cells #[.iface 25 (.pointer (some ⟨f, 0, none⟩)), .int .u32 4294967295, .int .u32 0, .bool false] 62)) w.heap.size 62 (pdCells f 4294967295 0 false) := Blk.fresh _ _ _
  have hO0 : Only (fun i => i = f) w (w.alloc (.cells #[.iface 25 (.pointer (some ⟨f, 0, none⟩)), .int .u32 4294967295, .int .u32 0, .bool false] 62)) := (Only.refl _ w).alloc _
  have hF0 := HF.out.only ((Only.refl (fun _ => False) w).alloc (.cells #[.iface 25 (.pointer (some ⟨f, 0, none⟩)), .int .u32 4294967295, .int .u32 0, .bool false] 62)) (fun i hi => hi.elim)
  generalize hg : w.heap.size = g at *
  have HG := Lib.hid hg
  clear hg
  refine (shift_any hB0 hF0 hfg (by omega)).mono ?_
  rintro e w1 ⟨rfl, at1, c1, bad1, hB1, hF1, hO1, h1⟩
  have HO1 := Lib.hid (hO0.trans' hO1 (fun i hi => by have := HG.out; rcases hi with hi | hi; exact .inl hi; exact .inr (by omega)))
  have j2 : w1.cell? ⟨g, 2, none⟩ = some (.int .u32 (c1 : Int)) := hB1.cell 2
  have HB1 := Lib.hid (fun so => refuse_any (so := so) hB1)
  have HF1 := Lib.hid hF1
  have H1 := Lib.hid h1
  have hc1 : c1 < 4294967296 := by
    rcases h1 with ⟨_, rfl, _⟩ | ⟨x, _, rfl, _⟩
    · omega
    · have := x.toNat_lt; omega
  have HC1 := Lib.hid hc1
  clear hB0 hF0 hO0 hB1 hF1 hO1 h1 HF hc1
  go_wp2_with fail
  refine (HB1.out _).mono ?_
  rintro e w2 ⟨rfl, hB2, hg2⟩
  have hS2 := Only.of_grown (S := fun i => i = g) hg2 rfl
  have hw2 : OnWay w2 g f lo bs 0 := by
    have hF2 := HF1.out.only hS2 (fun i hi => by omega)
    refine ⟨at1, c1, _, hB2, hF2, HC1.out, ?_⟩
    rcases H1.out with ⟨rfl, rfl, h⟩ | ⟨x, rfl, rfl, h⟩
    · refine .inl ⟨rfl, started_short ?_⟩
      have := congrArg List.length h
      simp only [List.length_drop, List.length_nil] at this
      omega
    · have hx : bs.getD 0 0 = x := by
        cases bs with
        | nil => cases h
        | cons y t => injection h with h _
      have hl := congrArg List.length h
      simp only [List.length_cons, List.length_drop] at hl
      have hle := hF2.le
      by_cases h0 : x.toNat = 0
      · refine .inr ⟨by simp [h0], by omega, by omega, by rw [hx]; exact h0, by simp [be, h0]⟩
      · exact .inl ⟨by simp; omega, started_head (by rw [hx]; exact h0)⟩
  have HW2 := Lib.hid hw2
  have HO2 := Lib.hid (HO1.out.trans' hS2 (fun i hi => .inr (by have := HG.out; omega)))
  clear hB2 hg2 hS2 HB1 HF1 H1 HO1 HC1 j2 hw2
  go_wp2_with fail
  go_loopw [18] (fun i wr => ∃ j : Nat, j ≤ 4 ∧ i = .int .i64 (j : Int) ∧ OnWay wr g f lo bs j ∧ Only (fun i => i = f) w wr) (fun i _ => 4 - (intOf i).toNat)
  case atStart => exact ⟨0, by omega, rfl, HW2.out, HO2.out⟩
  case round =>
    clear HW2 HO2
    obtain ⟨j, hj, rfl, hw, ho⟩ := hrel
    by_cases hlt : j < 4
    · have K := Lib.hid (onway_any hw hfg hlt)
      have HO := Lib.hid ho
      have hlt' : (j : Int) < 4 := by omega
      clear hw ho
      go_wp2_with fail
      refine K.out.mono ?_
      rintro e w3 ⟨rfl, hw3, ho3⟩
      have HW3 := Lib.hid hw3
      have HO3 := Lib.hid (HO.out.trans' ho3 (fun i hi => by have := HG.out; rcases hi with hi | hi; exact .inl hi; exact .inr (by omega)))
      clear hw3 ho3
      go_wp2_with fail
      go_roundw
      case rel => exact ⟨j + 1, by omega, by go_num, HW3.out, HO3.out⟩
      case measure => simp [intOf]; omega
    · obtain rfl : j = 4 := by omega
      obtain ⟨at_, c, bad, hB, hF, hc, h0⟩ := hw
      have j1 : wr.drew.cell? ⟨g, 1, none⟩ = some (.int .u32 4294967295) := hB.cell 1
      have j2 : wr.drew.cell? ⟨g, 2, none⟩ = some (.int .u32 (c : Int)) := hB.cell 2
      have HB := Lib.hid (fun so => refuse_any (so := so) (show Blk wr.drew g 62 (pdCells f 4294967295 c bad) from hB))
      have HF := Lib.hid (show Feed wr.drew f lo bs at_ from hF)
      have HO := Lib.hid (ho.drew)
      have H0 := Lib.hid h0
      have HC := Lib.hid hc
      clear hB hF ho h0 hc
      go_wp2_with fail
      go_still_tail 10, (by kernel_rfl)
      change wpList _ _ _ _ _ wr.drew
      generalize wr.drew = w2 at *
      go_wp2_with fail
      refine (HB.out _).mono ?_
      rintro e w3 ⟨rfl, hB3, hg3⟩
      have HB3 := Lib.hid hB3
      have HG3 := Lib.hid (Only.of_grown (S := fun i => i = g) hg3 rfl)
      clear hB3 hg3
      go_wp2_with fail
      go_ret
      rw [HG.out]
      refine ⟨rfl, ⟨at_, 4294967295, c, _, HB3.out, HF.out.only HG3.out (fun i hi => by omega), hfg, HF.out.le, by omega, HC.out, ?_⟩, HO.out.trans' HG3.out (fun i hi => .inr (by have := HG.out; omega))⟩
      rcases H0.out with ⟨rfl, h⟩ | ⟨rfl, rfl, h⟩
      · exact .inl ⟨rfl, h⟩
      · rw [started_begun h]
        by_cases hcc : c < 4294967295
        · rw [if_pos hcc]
          exact .inr ⟨by simp; omega, rfl⟩
        · rw [if_neg hcc]
          exact .inl ⟨by simp; omega, rfl⟩

end Go.Proofs.Ytkjhdpfomofggaa
