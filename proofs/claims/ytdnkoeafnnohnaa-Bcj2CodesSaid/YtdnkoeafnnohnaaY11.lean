/-
  B2Fin, B2Done, RdNew, B2New: put together.
-/
import Derived.Test.YtdnkoeafnnohnaaY10
import Derived.Test.YtdnkoeafnnohnaaY05
import Derived.Test.YtdnkoeafnnohnaaY02
import Derived.Laws.MakeOwn
import Derived.Test.YtdnkoeafnnohnaaY08
import Derived.Laws.IdiomCopy
set_option linter.unusedVariables false
set_option linter.unusedSimpArgs false
/-
  Whether the streams end.
-/
namespace Go.Proofs.Ytdnkoeafnnohnaa
open Go.RowKit

def endA (rem : Nat → List UInt8) : Bool := (rem 0).isEmpty && (rem 1).isEmpty && (rem 2).isEmpty && (rem 3).isEmpty
theorem endA_all {rem : Nat → List UInt8} (h : ∀ k, k < 4 → rem k = []) : endA rem = true := by
  unfold endA
  rw [h 0 (by decide), h 1 (by decide), h 2 (by decide), h 3 (by decide)]
  rfl
theorem endA_not {rem : Nat → List UInt8} {k : Nat} (hk : k < 4) (h : rem k ≠ []) : endA rem = false := by
  have e : (rem k).isEmpty = false := by
    cases hh : rem k with
    | nil => exact absurd hh h
    | cons _ _ => rfl
  unfold endA
  have : k = 0 ∨ k = 1 ∨ k = 2 ∨ k = 3 := by omega
  rcases this with rfl | rfl | rfl | rfl <;> simp [e]

section
variable {w w' : World} {F g : Nat} {S : Nat → Sc} {bs : Nat → List UInt8} {s s' : B2}

/-- the sources, each at some place; the first j are read to their ends -/
structure Srcs (w : World) (F g : Nat) (S : Nat → Sc) (bs : Nat → List UInt8) (s : B2) (rem : Nat → List UInt8) (j : Nat) : Prop where
  blk : FlB w F (fun k => (S k).f) g s
  at_ : ∀ k, k < 4 → ∃ n, (S k).At w (bs k) n ∧ rem k = (bs k).drop n
  nil : ∀ k, k < j → rem k = []
theorem Srcs.turn (hA : Apt F g S) {rem : Nat → List UInt8} {j : Nat} (h : Srcs w F g S bs s rem j) (hj : j < 4) (h0 : rem j = []) (hat : (S j).At w' (bs j) (bs j).length) (hO : Only (S j).turn w w') : Srcs w' F g S bs s rem (j + 1) := by
  have ht := fun i (hi : (S j).turn i) => (hA.ok j hj).tf i hi
  refine ⟨h.blk.only hO (fun hh => hA.nF j hj (ht F hh)), fun k hk => ?_, fun k hk => ?_⟩
  · by_cases e : k = j
    · subst e
      exact ⟨_, hat, by rw [h0, List.drop_length]⟩
    · obtain ⟨n, h1, h2⟩ := h.at_ k hk
      exact ⟨n, (hA.ok k hk).only h1 hO (fun i hi hh => hA.dis j k hj hk (fun e' => e e'.symm) i (ht i hi) hh), h2⟩
  · by_cases e : k = j
    · subst e; exact h0
    · exact h.nil k (by omega)

set_option maxRecDepth 100000 in
set_option maxHeartbeats 8000000 in
theorem b2ended_any {rem : Nat → List UInt8} (hA : Apt F g S) (h : Srcs w F g S bs s rem 0) :
    Calls Try.prog 35 #[.pointer (some ⟨F, 0, none⟩)] w fun e w' => e = .returned (.bool (endA rem)) ∧ FlB w' F (fun k => (S k).f) g s ∧ Only (fset F g S) w w' := by
  have c0 : w.cell? ⟨F, 0, none⟩ = some (.iface 37 (.pointer (some ⟨(S 0).f, 0, none⟩))) := h.blk.src (by decide)
  have c1 : w.cell? ⟨F, 1, none⟩ = some (.iface 37 (.pointer (some ⟨(S 1).f, 0, none⟩))) := h.blk.src (by decide)
  have c2 : w.cell? ⟨F, 2, none⟩ = some (.iface 37 (.pointer (some ⟨(S 2).f, 0, none⟩))) := h.blk.src (by decide)
  have c3 : w.cell? ⟨F, 3, none⟩ = some (.iface 37 (.pointer (some ⟨(S 3).f, 0, none⟩))) := h.blk.src (by decide)
  have hm := method_next
  have HA := Lib.hid hA
  have HH := Lib.hid h
  clear h hA
  go_enter Try.func35, Try.ntmps35
  go_wp2_with fail
  go_loopw [4, 11] (fun _ i wr => ∃ j : Nat, j ≤ 4 ∧ i = .int .i64 (j : Int) ∧ Srcs wr F g S bs s rem j ∧ Only (fset F g S) w wr) (fun _ i _ => 4 - (intOf i).toNat)
  case atStart => exact ⟨0, by omega, rfl, HH.out, Only.refl _ _⟩
  case round =>
    clear HH c0 c1 c2 c3
    obtain ⟨j, hj, rfl, hs, ho⟩ := hrel
    by_cases hlt : j < 4
    · obtain ⟨n, hat, hr⟩ := hs.at_ j hlt
      have hok := HA.out.ok j hlt
      have hle := hok.le hat
      have HO := Lib.hid (And.intro hs (And.intro ho hr))
      have hlt' : (j : Int) < 4 := by omega
      have hj0 : (0 : Int) ≤ (j : Int) := by omega
      have hix : ∀ W : World, (Instr.index 66 (.agg #[.iface 37 (.pointer (some ⟨(S 0).f, 0, none⟩)), .iface 37 (.pointer (some ⟨(S 1).f, 0, none⟩)), .iface 37 (.pointer (some ⟨(S 2).f, 0, none⟩)), .iface 37 (.pointer (some ⟨(S 3).f, 0, none⟩))]) (.int .i64 (j : Int))).run Try.prog W = .ok (.iface 37 (.pointer (some ⟨(S j).f, 0, none⟩))) W := by
        intro W
        have : j = 0 ∨ j = 1 ∨ j = 2 ∨ j = 3 := by omega
        rcases this with rfl | rfl | rfl | rfl <;> (show _ = _; kernel_rfl)
      by_cases hn : n < (bs j).length
      · have K := Lib.hid (hok.more hat hn)
        have hne : rem j ≠ [] := by
          rw [hr]
          intro e
          have := congrArg List.length e
          rw [List.length_drop] at this
          simp only [List.length_nil] at this
          omega
        have HE := Lib.hid (endA_not hlt hne)
        have HT := Lib.hid (show ∀ i, (S j).turn i → fset F g S i from fun i hi => .inr (.inr ⟨j, hlt, hi⟩))
        have HF := Lib.hid (fun i (hi : (S j).turn i) => hok.tf i hi)
        have HNF := Lib.hid (HA.out.nF j hlt)
        generalize (bs j).getD n 0 = x at *
        clear hs ho hat hr hle hok hn hne
        go_wp2_with fail
        refine K.out.mono ?_
        rintro e w1 ⟨rfl, hA1, hO1⟩
        have HO1 := Lib.hid hO1
        clear hO1 hA1 K
        go_wp2_with fail
        go_ret
        exact ⟨by rw [HE.out]; rfl, HO.out.1.blk.only HO1.out (fun hh => HNF.out (HF.out F hh)), HO.out.2.1.trans (HO1.out.mono HT.out)⟩
      · have hn' : n = (bs j).length := by omega
        subst hn'
        have K := Lib.hid (hok.done hat)
        have HE := Lib.hid (show rem j = [] by rw [hr]; exact List.drop_length)
        have HT := Lib.hid (show ∀ i, (S j).turn i → fset F g S i from fun i hi => .inr (.inr ⟨j, hlt, hi⟩))
        clear hs ho hat hr hle hok hn
        go_wp2_with fail
        refine K.out.mono ?_
        rintro e w1 ⟨rfl, hA1, hO1⟩
        have HS := Lib.hid (And.intro (HO.out.1.turn HA.out hlt HE.out hA1 hO1) (HO.out.2.1.trans (hO1.mono HT.out)))
        clear hO1 hA1 K HO
        go_wp2_with fail
        go_roundw
        case rel => exact ⟨j + 1, by omega, by go_num, HS.out.1, HS.out.2⟩
        case measure => simp [intOf]; omega
    · obtain rfl : j = 4 := by omega
      have HS := Lib.hid (And.intro hs ho)
      clear hs ho
      go_wp2_with fail
      go_ret
      exact ⟨by rw [endA_all HS.out.1.nil]; rfl, HS.out.1.blk, HS.out.2⟩
end
end Go.Proofs.Ytdnkoeafnnohnaa

/-
  Finish.
-/
namespace Go.Proofs.Ytdnkoeafnnohnaa
open Go.RowKit

section
variable {w w' : World} {F g : Nat} {S : Nat → Sc} {bs : Nat → List UInt8} {s s' : B2}

theorem fin_left (h : s.left ≠ 0) : s.fin = false := by
  unfold B2.fin
  have : (s.left == 0) = false := by simp [h]
  rw [this]; rfl
theorem fin_dead (h : s.dead = true) : s.fin = false := by
  unfold B2.fin
  rw [h]; simp
theorem fin_end (h : end2 s.d = false) : s.fin = false := by
  unfold B2.fin
  rw [h]; simp

/-- the state behind Finish -/
def B2.over (s : B2) : B2 := { s with dead := true }

theorem over_of (h : Fl w F g S bs s) (hB : FlB w' F (fun k => (S k).f) g s) : Fl (w'.setCell ⟨F, 263, none⟩ (.bool true)) F g S bs s.over :=
  ⟨hB.putDead true, h.ok.withD, h.apt, (fun e => by cases e), (fun e => by cases e)⟩

set_option maxRecDepth 100000 in
set_option maxHeartbeats 8000000 in
theorem b2finish_any (h : Fl w F g S bs s) :
    Calls Try.prog 18 #[.pointer (some ⟨F, 0, none⟩)] w (BPost w F g S bs (.bool s.fin) s.over) := by
  have c64 := h.blk.left
  have c63 := h.blk.dead
  have c4 := h.blk.dec
  have z63 := h.blk.free 263
  have HP := Lib.hid (over_of h h.blk)
  have HO := Lib.hid (((Only.refl (fset F g S) w).setCell (p := ⟨F, 263, none⟩) (.inl (.inl rfl)) (.bool true)))
  by_cases hl0 : s.left = 0
  · cases hd : s.dead with
    | true =>
      rw [hl0] at c64
      rw [hd] at c63
      rw [fin_dead hd]
      clear h hl0 hd
      go_enter Try.func18, Try.ntmps18
      go_wp2_with fail
      go_ret
      exact ⟨rfl, HP.out, HO.out⟩
    | false =>
      obtain ⟨at_, r, c, bad, hB, hAt, hng, ht1, ht2, ht3, ht⟩ := h.pd hd
      have KD := Lib.hid (done_any hB)
      rw [hl0] at c64
      rw [hd] at c63
      cases hdn : (!bad && decide (c = 0)) with
      | false =>
        have hf : s.fin = false := by
          refine fin_end ?_
          rcases ht with ⟨rfl, e⟩ | ⟨rfl, e⟩
          · rw [e]; rfl
          · rw [e]
            have : c ≠ 0 := by
              intro hc
              subst hc
              simp at hdn
            match c, this with
            | k + 1, _ => rfl
        rw [hf]
        rw [hdn] at KD
        clear h hl0 hd hB hAt hng ht1 ht2 ht3 ht hdn hf
        go_enter Try.func18, Try.ntmps18
        go_wp2_with fail
        refine KD.out.mono ?_
        rintro e w1 ⟨rfl, rfl⟩
        go_wp2_with fail
        go_ret
        exact ⟨rfl, HP.out, HO.out⟩
      | true =>
        obtain ⟨rfl, rfl⟩ : bad = false ∧ c = 0 := by
          cases bad
          · simp at hdn; exact ⟨rfl, hdn⟩
          · simp at hdn
        have hdd : s.d = some (r, 0, (bs 3).drop at_) := by
          rcases ht with ⟨e, _⟩ | ⟨_, e⟩
          · cases e
          · exact e
        have hs : Srcs w F g S bs s (fun k => if k = 3 then (bs 3).drop at_ else s.src k) 0 := by
          refine ⟨h.blk, fun k hk => ?_, fun k hk => by omega⟩
          by_cases e : k = 3
          · subst e
            exact ⟨at_, hAt, if_pos rfl⟩
          · obtain ⟨n, h1, h2⟩ := h.at_ hd k (by omega)
            exact ⟨n, h1, (if_neg e).trans h2⟩
        have hf : s.fin = endA (fun k => if k = 3 then (bs 3).drop at_ else s.src k) := by
          unfold B2.fin endA
          rw [hl0, hd, hdd]
          have e2 : end2 (some (r, 0, (bs 3).drop at_)) = ((bs 3).drop at_).isEmpty := by
            cases (bs 3).drop at_ <;> rfl
          rw [e2]
          simp
        rw [hf]
        rw [hdn] at KD
        have KE := Lib.hid (b2ended_any h.apt hs)
        have HH := Lib.hid h
        clear h hl0 hd hB hAt hng ht1 ht2 ht3 ht hdn hf hs hdd
        generalize endA (fun k => if k = 3 then (bs 3).drop at_ else s.src k) = b at *
        clear HP HO
        go_enter Try.func18, Try.ntmps18
        go_wp2_with fail
        refine KD.out.mono ?_
        rintro e w1 ⟨rfl, rfl⟩
        go_wp2_with fail
        refine KE.out.mono ?_
        rintro e w1 ⟨rfl, hB1, hO1⟩
        have d63 := hB1.dead
        have y63 := hB1.free 263
        have HP := Lib.hid (And.intro (over_of HH.out hB1) (hO1.setCell (p := ⟨F, 263, none⟩) (.inl (.inl rfl)) (.bool true)))
        clear hB1 hO1
        go_wp2_with fail
        go_ret
        exact ⟨rfl, HP.out.1, HP.out.2⟩
  · have hl1 : ((s.left : Int) == 0) = false := by simp; omega
    rw [fin_left hl0]
    clear h hl0
    go_enter Try.func18, Try.ntmps18
    go_wp2_with fail
    go_ret
    exact ⟨rfl, HP.out, HO.out⟩
end
end Go.Proofs.Ytdnkoeafnnohnaa

/-
  A decoder begins; fresh probabilities.
-/
namespace Go.Proofs.Ytdnkoeafnnohnaa
open Go.RowKit

/-- What stands behind the first byte and j shifts. -/
def OnWay (w : World) (g : Nat) (S : Sc) (bs : List UInt8) (j : Nat) : Prop :=
  ∃ at_ c bad, Blk w g 91 (pdCells S.f 4294967295 c bad) ∧ S.At w bs at_ ∧ c < 4294967296 ∧ ((bad = true ∧ started bs = none) ∨ (bad = false ∧ at_ = j + 1 ∧ Begun bs j c))

/-- A shift on the way. -/
theorem onway_any {w : World} {g j : Nat} {S : Sc} {bs : List UInt8} (hS : ScOk S) (h : OnWay w g S bs j) (hg : ¬ S.hold g) (hj : j < 4) :
    Calls Try.prog 46 #[.pointer (some ⟨g, 0, none⟩)] w fun e w' => e = .returned (.tuple #[]) ∧ OnWay w' g S bs (j + 1) ∧ Only (two S g) w w' := by
  obtain ⟨at_, c, bad, hB, hF, hc, h0⟩ := h
  rcases h0 with ⟨rfl, h0⟩ | ⟨rfl, rfl, h0⟩
  · refine (shift_bad hB).mono ?_
    rintro e w' ⟨rfl, rfl⟩
    exact ⟨rfl, ⟨at_, c, true, hB, hF, hc, .inl ⟨rfl, h0⟩⟩, Only.refl _ _⟩
  · have hc4 : c < 16777216 := Nat.lt_of_lt_of_le (begun_lt h0) (Nat.pow_le_pow_right (n := 256) (by omega) (show j ≤ 3 by omega))
    refine (shift_any hS hB hF hg hc4).mono ?_
    rintro e w' ⟨rfl, at', c', bad', h1, h2, h3, h4⟩
    refine ⟨rfl, ⟨at', c', bad', h1, h2, ?_, ?_⟩, h3⟩
    · rcases h4 with ⟨_, rfl, _⟩ | ⟨x, _, rfl, _⟩
      · exact hc
      · have := x.toNat_lt; omega
    · rcases h4 with ⟨rfl, rfl, h5⟩ | ⟨x, rfl, rfl, h5⟩
      · refine .inl ⟨rfl, started_short ?_⟩
        have := List.drop_eq_nil_iff.1 h5
        omega
      · refine .inr ⟨rfl, ?_, begun_next h0 h5⟩
        have hl := congrArg List.length h5
        simp only [List.length_cons, List.length_drop] at hl
        have := hS.le hF
        have := hS.le h2
        have := (begun_next h0 h5).1
        omega

set_option maxRecDepth 100000 in
set_option maxHeartbeats 4000000 in
theorem pnew_any {w : World} {S : Sc} {bs : List UInt8} (hS : ScOk S) (hF : S.At w bs 0) :
    Calls Try.prog 29 #[.iface 37 (.pointer (some ⟨S.f, 0, none⟩))] w fun e w' =>
      e = .returned (.pointer (some ⟨w.heap.size, 0, none⟩)) ∧ Pd w' w.heap.size S bs (started bs) ∧ Only S.turn w w' := by
  have hgh : ¬ S.hold w.heap.size := fun h => Nat.lt_irrefl _ (hS.old hF h)
  have HS := Lib.hid hS
  have hgt : ¬ S.turn w.heap.size := fun h => hgh (hS.tf _ h)
  have HF := Lib.hid hF
  clear hF hS
  go_enter Try.func29, Try.ntmps29
  go_wp2_with fail
  have hB0 : Blk (w.alloc (.cells #[.iface 37 (.pointer (some ⟨S.f, 0, none⟩)), .int .u32 4294967295, .int .u32 0, .bool false] 91)) w.heap.size 91 (pdCells S.f 4294967295 0 false) := Blk.fresh _ _ _
  have hO0 : Only S.turn w (w.alloc (.cells #[.iface 37 (.pointer (some ⟨S.f, 0, none⟩)), .int .u32 4294967295, .int .u32 0, .bool false] 91)) := (Only.refl _ w).alloc _
  have hF0 := HS.out.only HF.out ((Only.refl (fun _ => False) w).alloc (.cells #[.iface 37 (.pointer (some ⟨S.f, 0, none⟩)), .int .u32 4294967295, .int .u32 0, .bool false] 91)) (fun i hi => hi.elim)
  generalize hg : w.heap.size = g at *
  have HG := Lib.hid hg
  clear hg
  refine (shift_any HS.out hB0 hF0 hgh (by omega)).mono ?_
  rintro e w1 ⟨rfl, at1, c1, bad1, hB1, hF1, hO1, h1⟩
  have HO1 := Lib.hid (hO0.trans' hO1 (fun i hi => by have := HG.out; rcases hi with hi | hi; exact .inl hi; exact .inr (by omega)))
  have j2 : w1.cell? ⟨g, 2, none⟩ = some (.int .u32 (c1 : Int)) := hB1.cell 2
  have HB1 := Lib.hid (fun so => refuse_any (so := so) hB1)
  have HF1 := Lib.hid hF1
  have H1 := Lib.hid h1
  have hc1 : c1 < 4294967296 := by
    rcases h1 with ⟨_, rfl, _⟩ | ⟨x, _, rfl, _⟩
    · omega
    · have := x.toNat_lt; omega
  have HC1 := Lib.hid hc1
  clear hB0 hF0 hO0 hB1 hF1 hO1 h1 HF hc1
  go_wp2_with fail
  refine (HB1.out _).mono ?_
  rintro e w2 ⟨rfl, hB2, hg2⟩
  have hS2 := Only.of_grown (S := fun i => i = g) hg2 rfl
  have hw2 : OnWay w2 g S bs 0 := by
    have hF2 := HS.out.only HF1.out hS2 (fun i hi => by rcases hi with rfl; exact hgh)
    refine ⟨at1, c1, _, hB2, hF2, HC1.out, ?_⟩
    rcases H1.out with ⟨rfl, rfl, h⟩ | ⟨x, rfl, rfl, h⟩
    · refine .inl ⟨rfl, started_short ?_⟩
      have := congrArg List.length h
      simp only [List.length_drop, List.length_nil] at this
      omega
    · have hx : bs.getD 0 0 = x := by
        cases bs with
        | nil => cases h
        | cons y t => injection h with h _
      have hl := congrArg List.length h
      simp only [List.length_cons, List.length_drop] at hl
      have hle := HS.out.le hF2
      by_cases h0 : x.toNat = 0
      · refine .inr ⟨by simp [h0], by omega, by omega, by rw [hx]; exact h0, by simp [be, h0]⟩
      · exact .inl ⟨by simp; omega, started_head (by rw [hx]; exact h0)⟩
  have HW2 := Lib.hid hw2
  have HO2 := Lib.hid (HO1.out.trans' hS2 (fun i hi => .inr (by have := HG.out; omega)))
  clear hB2 hg2 hS2 HB1 HF1 H1 HO1 HC1 j2 hw2
  go_wp2_with fail
  go_loopw [18] (fun i wr => ∃ j : Nat, j ≤ 4 ∧ i = .int .i64 (j : Int) ∧ OnWay wr g S bs j ∧ Only S.turn w wr) (fun i _ => 4 - (intOf i).toNat)
  case atStart => exact ⟨0, by omega, rfl, HW2.out, HO2.out⟩
  case round =>
    clear HW2 HO2
    obtain ⟨j, hj, rfl, hw, ho⟩ := hrel
    by_cases hlt : j < 4
    · have K := Lib.hid (onway_any HS.out hw hgh hlt)
      have HO := Lib.hid ho
      have hlt' : (j : Int) < 4 := by omega
      clear hw ho
      go_wp2_with fail
      refine K.out.mono ?_
      rintro e w3 ⟨rfl, hw3, ho3⟩
      have HW3 := Lib.hid hw3
      have HO3 := Lib.hid (HO.out.trans' ho3 (fun i hi => by have := HG.out; rcases hi with hi | hi; exact .inl hi; exact .inr (by omega)))
      clear hw3 ho3
      go_wp2_with fail
      go_roundw
      case rel => exact ⟨j + 1, by omega, by go_num, HW3.out, HO3.out⟩
      case measure => simp [intOf]; omega
    · obtain rfl : j = 4 := by omega
      obtain ⟨at_, c, bad, hB, hF, hc, h0⟩ := hw
      have j1 : wr.drew.cell? ⟨g, 1, none⟩ = some (.int .u32 4294967295) := hB.cell 1
      have j2 : wr.drew.cell? ⟨g, 2, none⟩ = some (.int .u32 (c : Int)) := hB.cell 2
      have HB := Lib.hid (fun so => refuse_any (so := so) (show Blk wr.drew g 91 (pdCells S.f 4294967295 c bad) from hB))
      have HF := Lib.hid (show S.At wr.drew bs at_ from HS.out.only hF ((Only.refl (fun _ => False) wr).drew) (fun _ hh => hh.elim))
      have HO := Lib.hid (ho.drew)
      have H0 := Lib.hid h0
      have HC := Lib.hid hc
      clear hB hF ho h0 hc
      go_wp2_with fail
      go_still_tail 10, (by kernel_rfl)
      change wpList _ _ _ _ _ wr.drew
      generalize wr.drew = w2 at *
      go_wp2_with fail
      refine (HB.out _).mono ?_
      rintro e w3 ⟨rfl, hB3, hg3⟩
      have HB3 := Lib.hid hB3
      have HG3 := Lib.hid (Only.of_grown (S := fun i => i = g) hg3 rfl)
      clear hB3 hg3
      go_wp2_with fail
      go_ret
      rw [HG.out]
      refine ⟨rfl, ⟨at_, 4294967295, c, _, HB3.out, HS.out.only HF.out HG3.out (fun i hi => by rcases hi with rfl; exact hgh), HG.out ▸ hgh, HS.out.le HF.out, by omega, HC.out, ?_⟩, HO.out.trans' HG3.out (fun i hi => .inr (by have := HG.out; omega))⟩
      rcases H0.out with ⟨rfl, h⟩ | ⟨rfl, rfl, h⟩
      · exact .inl ⟨rfl, h⟩
      · rw [started_begun h]
        by_cases hcc : c < 4294967295
        · rw [if_pos hcc]
          exact .inr ⟨by simp; omega, rfl⟩
        · rw [if_neg hcc]
          exact .inl ⟨by simp; omega, rfl⟩


theorem madeNums (n : Nat) : (madeCells #[Value.int .u16 0] n).toList = pv (List.replicate n 0) := by
  rw [toList_madeCells_one]
  simp [pv]

set_option maxRecDepth 100000 in
set_option maxHeartbeats 2000000 in
theorem fresh_any {n : Nat} (hn : n ≤ 1000000) (w : World) :
    Calls Try.prog 24 #[.int .i64 (n : Int)] w fun e w' =>
      e = .returned (.slice (some ⟨w.heap.size, 0, none⟩) n n) ∧ Row w' w.heap.size (List.replicate n 1024) n ∧ Below w.heap.size w w' := by
  obtain ⟨i, hi, hz0, hz1, hz2⟩ := info_parts info_u16
  have h0 : ¬ (n : Int) < 0 := by omega
  have h1 : ¬ (n : Int) > 2147483647 := by omega
  go_enter Try.func24, Try.ntmps24
  go_wp2_with (first
      | (at_make; refine wpList_make_full _ rfl _ _ 43 rfl w.heap.size 46 i _ 1 Try.underlying43 hi hz0 hz1 _ _ _ _ n rfl rfl rfl rfl ?b1 ?b2 (by simp) ?_))
  case b1 => omega
  case b2 => unfold maxLen; omega
  intro w2 ho hg
  rw [madeNums] at ho
  have HO := Lib.hid ho
  have HG := Lib.hid (only_none hg)
  clear ho hg
  go_wp2_with fail
  go_loopw [4, 14] (fun _ k wr => ∃ j : Nat, j ≤ n ∧ k = .int .i64 (j : Int) ∧ wr.ownsRow w.heap.size 46 1 (.slice (some ⟨w.heap.size, 0, none⟩) n n) n (pv (List.replicate j 1024 ++ List.replicate (n - j) 0)) ∧ Below w.heap.size w wr) (fun _ k _ => n - (intOf k).toNat)
  case atStart => exact ⟨0, by omega, rfl, by simpa using HO.out, HG.out⟩
  case round =>
    clear HO HG
    obtain ⟨j, hj, rfl, ho, hb⟩ := hrel
    have HO := Lib.hid ho
    have HG := Lib.hid hb
    clear ho hb
    by_cases hlt : j < n
    · have hfree := HO.out.frozenAt j
      have hl2 : (pv (List.replicate j 1024 ++ List.replicate (n - j) 0)).length = n := by rw [pv_length]; simp; omega
      obtain ⟨old, hold⟩ : ∃ u, wr.cell? ⟨w.heap.size, j, none⟩ = some u := by
        rw [HO.out.cellAt j (by omega), List.getElem?_eq_getElem (by omega)]
        exact ⟨_, rfl⟩
      have i1 : (j : Int) < (n : Int) := by omega
      have i0 : (0 : Int) ≤ (j : Int) := by omega
      have HN := Lib.hid (show (pv (List.replicate j 1024 ++ List.replicate (n - j) 0)).set j (.int .u16 1024) = pv (List.replicate (j + 1) 1024 ++ List.replicate (n - (j + 1)) 0) by
        obtain ⟨m, hm⟩ : ∃ m, n - j = m + 1 := ⟨n - j - 1, by omega⟩
        rw [show n - (j + 1) = m by omega, hm, List.replicate_succ, show (Value.int .u16 1024) = .int .u16 ((1024 : Nat) : Int) from rfl, pv_set, List.set_append_right _ _ (by simp), List.length_replicate, Nat.sub_self, List.set_cons_zero, List.replicate_succ']
        simp)
      clear hl2
      go_wp2_with fail
      go_roundw
      case rel =>
        refine ⟨j + 1, by omega, by go_num, ?_, HG.out.setCell (by simp) _⟩
        have ho := (HO.out.stored j (.int .u16 1024)).1
        rw [HN.out] at ho
        exact ho
      case measure => simp [intOf]; omega
    · obtain rfl : j = n := by omega
      go_wp2_with fail
      go_ret
      refine ⟨rfl, ?_, HG.out⟩
      have ho := HO.out
      rw [Nat.sub_self, List.replicate_zero, List.append_nil] at ho
      unfold Row
      rw [List.length_replicate]
      exact own_mono ho (Nat.zero_le _)
end Go.Proofs.Ytdnkoeafnnohnaa

/-
  A filter is made.
-/
namespace Go.Proofs.Ytdnkoeafnnohnaa
open Go.RowKit

theorem max2_int {P : Program} (ts : Array TypeId) (t : TypeId) (x y k : Int) (hk : k = max x y) : ∀ w, (Builtin.max_ ts t #[.int .i64 x, .int .i64 y]).run P w = .ok (.int .i64 k) w := by
  intro w
  subst hk
  by_cases h : x ≤ y
  · rw [Int.max_eq_right h]
    simp [Builtin.max_, Builtin.max2]; omega
  · rw [Int.max_eq_left (by omega)]
    simp [Builtin.max_, Builtin.max2]; omega
theorem blk_cells {g : Nat} {T : TypeId} : ∀ (vs : List Value) (o : Nat) (w : World) (cs : Array Value), Blk w g T cs → o + vs.length ≤ cs.size →
    ∃ cs', Blk (w.setCells g o vs) g T cs' ∧ cs'.size = cs.size ∧ (∀ j, j < vs.length → cs'[o + j]? = vs[j]?) ∧ (∀ i, i < o ∨ o + vs.length ≤ i → cs'[i]? = cs[i]?) ∧ Only (fun i => i = g) w (w.setCells g o vs)
  | [], o, w, cs, h, _ => ⟨cs, h, rfl, fun j hj => absurd hj (Nat.not_lt_zero j), fun _ _ => rfl, Only.refl _ _⟩
  | v :: r, o, w, cs, h, hz => by
    rw [List.length_cons] at hz
    obtain ⟨c1, b1, b2, b3, b4, b5⟩ := blk_cells r (o + 1) (w.setCell ⟨g, o, none⟩ v) _ (h.put o v) (by rw [Array.size_setIfInBounds]; omega)
    rw [Array.size_setIfInBounds] at b2
    have e : w.setCells g o (v :: r) = (w.setCell ⟨g, o, none⟩ v).setCells g (o + 1) r := rfl
    rw [e]
    refine ⟨c1, b1, b2, fun j hj => ?_, fun i hi => ?_, ((Only.refl (fun i => i = g) w).setCell (.inl rfl) _).trans b5⟩
    · rw [List.length_cons] at hj
      rcases j with _ | j
      · rw [Nat.add_zero, b4 o (by omega), Array.getElem?_setIfInBounds, if_pos rfl, if_pos (by omega)]
        rfl
      · rw [show o + (j + 1) = o + 1 + j by omega, b3 j (by omega), List.getElem?_cons_succ]
    · rw [List.length_cons] at hi
      rw [b4 i (by omega), Array.getElem?_setIfInBounds, if_neg (by omega)]

/-- a filter's zero -/
def z2 : Array Value := (List.replicate 4 Value.nilIface ++ (.pointer none :: (List.replicate 258 (Value.int .u16 0) ++ [Value.bool false, .int .i64 0, .int .u32 0, .int .u8 0, .bool false, .int .i64 0, .int .u32 0, .int .i64 0]))).toArray
theorem z2_size : z2.size = 271 := by decide +kernel
theorem b2_zero (W : World) : (zeroValue 70).run Try.prog W = .ok (.agg z2) W := by kernel_rfl
theorem feed_ne (a : Addr) (w : World) : (binOp .eql 65 (.iface 37 (.pointer (some a))) .nilIface).run Try.prog w = .ok (.bool false) w := by kernel_rfl
theorem info_u16' : (Try.prog.info? 46).map (·.size) = some 1 := by kernel_rfl

def B2.new (bs : Nat → List UInt8) (n : Nat) : B2 := ⟨bs, started (bs 3), List.replicate 258 1024, false, n, 0, 0, false, 0, 0, 0⟩
theorem b2new_ok (bs : Nat → List UInt8) {n : Nat} (h : n < 9223372036854775808) : B2Ok (B2.new bs n) :=
  ⟨dcOk_started _, fun p hp => by rw [List.eq_of_mem_replicate hp]; exact pOk_fresh, List.length_replicate, (show 0 < 4294967296 by decide), (show 0 < 256 by decide), (show 0 < 258 by decide), (show 0 < 4294967296 by decide), (show 0 ≤ 4 by decide), h⟩

/-- the filter's cells at its beginning -/
def c2 (f : Nat → Nat) (n : Nat) : Array Value := ((((z2.setIfInBounds 0 (fdV (f 0))).setIfInBounds 1 (fdV (f 1))).setIfInBounds 2 (fdV (f 2))).setIfInBounds 3 (fdV (f 3))).setIfInBounds 264 (.int .i64 (n : Int))
theorem c2_size (f : Nat → Nat) (n : Nat) : (c2 f n).size = 271 := by unfold c2; simp only [Array.size_setIfInBounds]; exact z2_size
theorem c2_src (f : Nat → Nat) (n : Nat) {k : Nat} (hk : k < 4) : (c2 f n)[k]? = some (fdV (f k)) := by
  have hs := z2_size
  have : k = 0 ∨ k = 1 ∨ k = 2 ∨ k = 3 := by omega
  unfold c2
  rcases this with rfl | rfl | rfl | rfl <;> simp [Array.getElem?_setIfInBounds, hs]
theorem c2_left (f : Nat → Nat) (n : Nat) : (c2 f n)[264]? = some (.int .i64 (n : Int)) := by
  have hs := z2_size
  unfold c2
  simp [Array.getElem?_setIfInBounds, hs]
theorem c2_far (f : Nat → Nat) (n : Nat) {i : Nat} (h1 : 4 ≤ i) (h2 : i ≠ 264) : (c2 f n)[i]? = z2[i]? := by
  unfold c2
  rw [Array.getElem?_setIfInBounds, if_neg (by omega), Array.getElem?_setIfInBounds, if_neg (by omega), Array.getElem?_setIfInBounds, if_neg (by omega), Array.getElem?_setIfInBounds, if_neg (by omega), Array.getElem?_setIfInBounds, if_neg (by omega)]
theorem z2_263 : z2[263]? = some (.bool false) := by kernel_rfl
theorem z2_265 : z2[265]? = some (.int .u32 0) := by kernel_rfl
theorem z2_266 : z2[266]? = some (.int .u8 0) := by kernel_rfl
theorem z2_267 : z2[267]? = some (.bool false) := by kernel_rfl
theorem z2_268 : z2[268]? = some (.int .i64 0) := by kernel_rfl
theorem z2_269 : z2[269]? = some (.int .u32 0) := by kernel_rfl
theorem z2_270 : z2[270]? = some (.int .i64 0) := by kernel_rfl

/-- decoder and probabilities are there -/
theorem flb_new {W : World} {F g n : Nat} {f : Nat → Nat} {bs : Nat → List UInt8} {l : List Nat} (hL : l = List.replicate 258 1024) (hB : Blk W F 70 ((c2 f n).setIfInBounds 4 (.pointer (some ⟨g, 0, none⟩)))) :
    FlB (W.setCells F 5 (pv l)) F f g (B2.new bs n) ∧ Only (fun i => i = F) W (W.setCells F 5 (pv l)) := by
  have hl0 : l.length = 258 := by rw [hL, List.length_replicate]
  have hl : (pv l).length = 258 := by rw [pv_length, hl0]
  have hz := c2_size f n
  obtain ⟨cs, b1, b2, b3, b4, b5⟩ := blk_cells (pv l) 5 W _ hB (by rw [hl, Array.size_setIfInBounds, hz]; decide)
  rw [Array.size_setIfInBounds, hz] at b2
  rw [hl] at b3 b4
  refine ⟨⟨List.length_replicate, cs, b1, b2, fun i hi => ?_⟩, b5⟩
  have far : ∀ j, j ≠ 4 → (j < 5 ∨ 263 ≤ j) → cs[j]? = (c2 f n)[j]? := fun j h1 h2 => by
    rw [b4 j (by omega), Array.getElem?_setIfInBounds, if_neg (by omega)]
  by_cases h0 : i < 4
  · rw [far i (by omega) (by omega), c2_src f n h0]; unfold b2c; rw [if_pos h0]
  by_cases h4 : i = 4
  · subst h4
    rw [b4 4 (by omega), Array.getElem?_setIfInBounds, if_pos rfl, if_pos (by omega)]; rfl
  by_cases h5 : i < 263
  · have h6 := b3 (i - 5) (by omega)
    rw [show 5 + (i - 5) = i by omega, pv_get _ _ (by rw [hl0]; omega)] at h6
    rw [h6]
    unfold b2c
    rw [if_neg h0, if_neg h4, if_pos h5, hL]
    rfl
  have hh : i = 263 ∨ i = 264 ∨ i = 265 ∨ i = 266 ∨ i = 267 ∨ i = 268 ∨ i = 269 ∨ i = 270 := by omega
  rw [far i h4 (by omega)]
  rcases hh with rfl | rfl | rfl | rfl | rfl | rfl | rfl | rfl
  · rw [c2_far f n (by decide) (by decide), z2_263]; rfl
  · rw [c2_left]; rfl
  · rw [c2_far f n (by decide) (by decide), z2_265]; rfl
  · rw [c2_far f n (by decide) (by decide), z2_266]; rfl
  · rw [c2_far f n (by decide) (by decide), z2_267]; rfl
  · rw [c2_far f n (by decide) (by decide), z2_268]; rfl
  · rw [c2_far f n (by decide) (by decide), z2_269]; rfl
  · rw [c2_far f n (by decide) (by decide), z2_270]; rfl

theorem copy_fresh {W : World} {F r g n : Nat} {f : Nat → Nat} {l : List Nat} (hL : l = List.replicate 258 1024) (hB : Blk W F 70 ((c2 f n).setIfInBounds 4 (.pointer (some ⟨g, 0, none⟩)))) (hR : Row W r l 258) :
    (Builtin.copy_ #[43, 43] 3 #[.slice (some ⟨F, 5, none⟩) 258 258, .slice (some ⟨r, 0, none⟩) 258 258]).run Try.prog W = .ok (goInt 258) (W.setCells F 5 (pv l)) := by
  have hl0 : l.length = 258 := by rw [hL, List.length_replicate]
  have hl : (pv l).length = 258 := by rw [pv_length, hl0]
  have hz := c2_size f n
  have := run_copy_cells (P := Try.prog) W 43 43 3 46 F 5 258 258 ⟨r, 0, none⟩ 258 258 (pv l) Try.underlying43 info_u16' (by rw [hl]; rfl) (fun j v hv => by
    have hj : j < 258 := by have := (List.getElem?_eq_some_iff.1 hv).1; rwa [hl] at this
    rw [show (⟨r, 0, none⟩ : Addr).add j = ⟨r, j, none⟩ by unfold Addr.add; by_cases h0 : j = 0 <;> simp [h0]]
    rw [hR.cell (by rw [hl0]; exact hj), ← hv, pv_get _ _ (by rw [hl0]; exact hj)]) (fun j hj => by
    rw [hl] at hj
    rw [hB.cell, Array.getElem?_eq_getElem (by rw [Array.size_setIfInBounds, hz]; omega)]
    rfl) (fun j _ => hB.free _) (by
    intro u hu
    obtain ⟨_, _, rfl⟩ := List.mem_map.1 hu
    rfl)
  rw [hl] at this
  exact this

set_option maxRecDepth 100000 in
set_option maxHeartbeats 8000000 in
theorem b2new_any {w : World} {S : Nat → Sc} {bs : Nat → List UInt8} {size : Int} (hok : ∀ k, k < 4 → ScOk (S k)) (hdis : ∀ k l, k < 4 → l < 4 → k ≠ l → ∀ i, (S k).hold i → ¬ (S l).hold i) (hat : ∀ k, k < 4 → (S k).At w (bs k) 0) (hsz : size < 9223372036854775808) :
    Calls Try.prog 15 #[fdV (S 0).f, fdV (S 1).f, fdV (S 2).f, fdV (S 3).f, .int .i64 size] w fun e w' =>
      e = .returned (.pointer (some ⟨w.heap.size, 0, none⟩)) ∧ ∃ g, Fl w' w.heap.size g S bs (B2.new bs size.toNat) ∧ w.heap.size < g ∧ Only (S 3).turn w w' := by
  have hz := b2_zero
  have hzs := z2_size
  have hyn : ¬ z2 = #[] := fun h => by rw [h] at hzs; exact absurd hzs (by decide)
  have hmx := max2_int (P := Try.prog) #[3, 3] 3 size 0 (size.toNat : Int) (by omega)
  have HN := Lib.hid (show size.toNat < 9223372036854775808 by omega)
  generalize size.toNat = n at *
  obtain ⟨l, hL⟩ : ∃ l, l = List.replicate 258 1024 := ⟨_, rfl⟩
  have hold : ∀ k, k < 4 → ¬ (S k).hold w.heap.size := fun k hk h => by have := (hok k hk).old (hat k hk) h; omega
  obtain ⟨w1, hw1⟩ : ∃ w1, w1 = w.alloc (.cells (c2 (fun k => (S k).f) n) 70) := ⟨_, rfl⟩
  have hB1 : Blk w1 w.heap.size 70 (c2 (fun k => (S k).f) n) := by rw [hw1]; exact Blk.fresh _ _ _
  have hO1 : Only (fun _ => False) w w1 := by rw [hw1]; exact (Only.refl _ w).alloc _
  have hs1 : w.heap.size < w1.heap.size := by rw [hw1]; simp
  have hat1 : ∀ k, k < 4 → (S k).At w1 (bs k) 0 := fun k hk => (hok k hk).only (hat k hk) hO1 (fun _ h => h.elim)
  have c3 : w1.cell? ⟨w.heap.size, 3, none⟩ = some (.iface 37 (.pointer (some ⟨(S 3).f, 0, none⟩))) := by rw [hB1.cell 3]; exact c2_src _ n (by decide)
  have KD := Lib.hid (pnew_any (hok 3 (by decide)) (hat1 3 (by decide)))
  have KF := Lib.hid (fun W => (show Calls Try.prog 24 #[.int .i64 258] W (fun e w' => e = .returned (.slice (some ⟨W.heap.size, 0, none⟩) 258 258) ∧ Row w' W.heap.size (List.replicate 258 1024) 258 ∧ Below W.heap.size W w') from fresh_any (n := 258) (by decide) W))
  rw [← hL] at KF
  have HL := Lib.hid hL
  clear hL
  have hne := feed_ne
  have HW1 := Lib.hid hw1
  have HH := Lib.hid (And.intro hok (And.intro hdis (And.intro hat1 (And.intro hold (And.intro hB1 hO1)))))
  unfold c2 at hw1
  have HC := Lib.hid hw1
  clear hw1 hB1 hO1 hat1 hold hat hdis hok hsz
  generalize z2 = Z at *
  unfold fdV at *
  go_enter Try.func15, Try.ntmps15
  go_wp2_with fail
  go_loopw [12, 13, 27] (fun _ _ i wr => ∃ j : Nat, j ≤ 4 ∧ i = .int .i64 (j : Int) ∧ wr = w1) (fun _ _ i _ => 4 - (intOf i).toNat)
  case atStart => exact ⟨0, by omega, rfl, HC.out.symm⟩
  case round =>
    obtain ⟨j, hj, rfl, rfl⟩ := hrel
    by_cases hlt : j < 4
    · have hlt' : (j : Int) < 4 := by omega
      have hj0 : (0 : Int) ≤ (j : Int) := by omega
      have hix : ∀ W : World, (Instr.index 66 (.agg #[.iface 37 (.pointer (some ⟨(S 0).f, 0, none⟩)), .iface 37 (.pointer (some ⟨(S 1).f, 0, none⟩)), .iface 37 (.pointer (some ⟨(S 2).f, 0, none⟩)), .iface 37 (.pointer (some ⟨(S 3).f, 0, none⟩))]) (.int .i64 (j : Int))).run Try.prog W = .ok (.iface 37 (.pointer (some ⟨(S j).f, 0, none⟩))) W := by
        intro W
        have : j = 0 ∨ j = 1 ∨ j = 2 ∨ j = 3 := by omega
        rcases this with rfl | rfl | rfl | rfl <;> (show _ = _; kernel_rfl)
      go_wp2_with fail
      go_roundw
      case rel => exact ⟨j + 1, by omega, by go_num, by first | rfl | trivial⟩
      case measure => simp [intOf]; omega
    · obtain rfl : j = 4 := by omega
      clear HC
      go_wp2_with fail
      refine KD.out.mono ?_
      rintro e w2 ⟨rfl, hp2, ho2⟩
      have hs1 := HH.out.2.2.2.2.1.lt
      obtain ⟨hok, hdis, hat1, hold, hB1, hO1⟩ := HH.out
      have ht3 : ¬ (S 3).turn w.heap.size := fun h => hold 3 (by decide) ((hok 3 (by decide)).tf _ h)
      have hB2 := hB1.only ho2 ht3
      have d4 : w2.cell? ⟨w.heap.size, 4, none⟩ = some (.pointer none) := by
        rw [hB2.cell 4, c2_far _ _ (by decide) (by decide)]; rfl
      have y4 := hB2.free 4
      have HP := Lib.hid (And.intro hp2 (And.intro ho2 (And.intro ht3 (And.intro hB2 hs1))))
      clear hp2 ho2 ht3 hB2 hs1 hok hdis hat1 hold hB1 hO1 c3 KD
      go_wp2_with fail
      have hB3 : Blk (w2.setCell ⟨w.heap.size, 4, none⟩ (.pointer (some ⟨wr.heap.size, 0, none⟩))) w.heap.size 70 ((c2 (fun k => (S k).f) n).setIfInBounds 4 (.pointer (some ⟨wr.heap.size, 0, none⟩))) := HP.out.2.2.2.1.put 4 _
      have hO3 : Only (fun i => i = w.heap.size) w2 (w2.setCell ⟨w.heap.size, 4, none⟩ (.pointer (some ⟨wr.heap.size, 0, none⟩))) := (Only.refl (fun i => i = w.heap.size) w2).setCell (p := ⟨w.heap.size, 4, none⟩) (.inl rfl) _
      have HB3 := Lib.hid hB3
      have HO3 := Lib.hid hO3
      clear hB3 hO3 d4 y4
      generalize w2.setCell ⟨w.heap.size, 4, none⟩ (.pointer (some ⟨wr.heap.size, 0, none⟩)) = w3 at *
      go_region_held3 (fun _ => True) (first | trivial | assumption | go_keep) (first | (go_at_call 24; refine (KF.out _).mono ?_; rintro e w4 ⟨rfl, hr4, hb4⟩; have hB4 := Blk.below (HB3.out.drewN _) hb4; have hcp := copy_fresh (r := w3.heap.size) HL.out hB4 hr4; have HB4 := Lib.hid (And.intro hB4 hb4); clear hB4 hb4 hr4))
      obtain ⟨hB4, hb4⟩ := HB4.out
      have HE := Lib.hid (And.intro (fun bs => flb_new (bs := bs) HL.out hB4) hb4)
      clear hB4 hb4 HB4 hcp
      generalize w4.setCells w.heap.size 5 (pv l) = w5 at *
      go_wp2_with fail
      go_ret
      obtain ⟨hE, hb4⟩ := HE.out
      obtain ⟨hp2, ho2, ht3, hB2, hs1⟩ := HP.out
      obtain ⟨hok, hdis, hat1, hold, hB1, hO1⟩ := HH.out
      have hO3 := HO3.out
      have o34 : Only (fun i => i = w.heap.size) w3 w4 := (Only.of_below hb4).of_drew
      have o25 : Only (fun i => i = w.heap.size) w2 w5 := (hO3.trans o34).trans (hE bs).2
      have or5 : Only (fun i => (S 3).turn i ∨ i = w.heap.size) wr w5 := (ho2.mono fun i hi => .inl hi).trans (o25.mono fun i hi => .inr hi)
      refine ⟨rfl, wr.heap.size, ⟨(hE bs).1, b2new_ok bs HN.out, ⟨hok, hdis, hold, fun k hk h => by have := (hok k hk).old (hat1 k hk) h; omega, by omega⟩, fun _ k hk => ⟨0, (hok k (by omega)).only (hat1 k (by omega)) or5 (fun i hi hh => ?_), rfl⟩, fun _ => ?_⟩, hs1, ?_⟩
      · rcases hi with hi | hi
        · exact hdis 3 k (by decide) (by omega) (by omega) i ((hok 3 (by decide)).tf i hi) hh
        · exact hold k (by omega) (hi ▸ hh)
      · exact hp2.only (hok 3 (by decide)) o25 (fun i hi => ⟨fun hh => hold 3 (by decide) (hi ▸ hh), by omega⟩)
      · exact (hO1.mono (S' := (S 3).turn) (fun _ h => h.elim)).trans' or5 (fun i hi => by
          rcases hi with hi | hi
          · exact .inl hi
          · exact .inr (by omega))
end Go.Proofs.Ytdnkoeafnnohnaa
