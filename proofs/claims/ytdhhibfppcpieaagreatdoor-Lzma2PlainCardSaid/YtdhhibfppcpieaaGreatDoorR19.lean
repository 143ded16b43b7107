/-
  LqEnds, BytN: put together.
-/
import Derived.Test.YtdhhibfppcpieaaGreatDoorR18
import Derived.Test.YtdhhibfppcpieaaGreatDoorR02
import Derived.Test.YtdhhibfppcpieaaGreatDoorR04
import Derived.Deep.AppendLies
import Derived.LoopTactic
set_option linter.unusedVariables false
set_option linter.unusedSimpArgs false
/-
  The decoder of LZMA2: Next, Finish, Begin.
-/
namespace Go.Proofs.YtdhhibfppcpieaaGreatDoor
open Go.RowKit

section
variable {K : Kon} {d g f lo : Nat} {bs : List UInt8} {fs : List Value} {ps : List Nat} {w w' w1 : World} {Gw G1 : Nat → Prop} {q q' : Lq} {v : Value} {e : Ending}

theorem L2.fo' (h : L2 K d f lo bs fs ps w Gw q) (hs : q.s.src = true) : f < w.heap.size := by
  obtain ⟨_, hF, _⟩ := h.rd.feed hs
  exact hF.lt
theorem come_chunk {q : Lq} (h : q.s.left = 0) (he : q.s.ended = false) : q.come = q.chunk := by unfold Lq.come; rw [if_pos ⟨h, he⟩]
theorem come_left {q : Lq} (h : q.s.left ≠ 0) : q.come = q := by unfold Lq.come; rw [if_neg (fun hh => h hh.1)]
theorem come_end {q : Lq} (he : q.s.ended = true) : q.come = q := by unfold Lq.come; rw [if_neg (by simp [he])]
theorem next_none {q : Lq} (h : q.come.s.left = 0) : q.next = (none, q.come) := by unfold Lq.next; rw [if_pos h]
theorem next_byte {q : Lq} (h : q.come.s.left ≠ 0) : q.next = q.come.byte := by unfold Lq.next; rw [if_neg h]

set_option maxRecDepth 100000 in
set_option maxHeartbeats 4000000 in
/-- the next byte, where no packed chunk comes -/
theorem qnext_any (h : L2 K d f lo bs fs ps w Gw q) (hF : q.Flat) (hM : q.Mid) (ho : q.o.length ≤ 1000000) :
    Calls Tryz.prog 23 #[.pointer (some ⟨d, 0, none⟩)] w (QPost K d f lo bs fs ps w Gw (toldV q.next.1) q.next.2) := by
  have c9 : w.cell? ⟨d, 9, none⟩ = some (.int .i64 (q.s.left : Int)) := h.rd.blk.cell 9
  have c3 : w.cell? ⟨d, 3, none⟩ = some (.bool q.s.ended) := h.rd.blk.cell 3
  have qn : ∀ w : World, (binOp .eql 96 (.pointer none) (.pointer none)).run Tryz.prog w = .ok (.bool true) w := fun _ => by kernel_rfl
  have HM := Lib.hid (And.intro h (And.intro hM ho))
  by_cases h0 : q.s.left = 0
  · cases he : q.s.ended with
    | true =>
      have hn := next_none (q := q) (by rw [come_end he]; exact h0)
      rw [come_end he] at hn
      have HN := Lib.hid hn
      rw [he] at c3
      rw [h0] at c9
      change w.cell? ⟨d, 9, none⟩ = some (.int .i64 0) at c9
      clear h hF hM ho h0 he hn
      go_enter Tryz.func23, Tryz.ntmps23
      go_wp2_with fail
      go_ret2
      rw [HN.out]
      exact ⟨rfl, Gw, HM.out.1, fun i hi => .inl hi, Only.refl _ _⟩
    | false =>
      have KC := Lib.hid (qchunk_any h (hF h0 he) h.fo')
      have hcm := come_chunk h0 he
      have hmid := come_mid hM
      have hco : q.come.o.length ≤ q.o.length := by rw [hcm]; exact chunk_o q
      rw [← hcm] at KC
      obtain ⟨q1, hq1⟩ : ∃ q1, q1 = q.come := ⟨_, rfl⟩
      rw [← hq1] at KC hmid hco
      have HQ := Lib.hid (And.intro hq1 (And.intro hmid hco))
      rw [he] at c3
      rw [h0] at c9
      change w.cell? ⟨d, 9, none⟩ = some (.int .i64 0) at c9
      clear h hF hM ho h0 he hcm hmid hco hq1
      go_enter Tryz.func23, Tryz.ntmps23
      go_wp2_with fail
      refine KC.out.mono ?_
      rintro e w1 ⟨rfl, G1, hL1, hG1, hO1⟩
      have c9 : w1.cell? ⟨d, 9, none⟩ = some (.int .i64 (q1.s.left : Int)) := hL1.rd.blk.cell 9
      have cp : w1.cell? ⟨d, 10, none⟩ = some (pkV q1.s.pk) := hL1.rd.blk.cell 10
      have HL := Lib.hid (And.intro hL1 (And.intro hG1 hO1))
      clear hL1 hG1 hO1 KC c3
      by_cases hz : q1.s.left = 0
      · have hn := next_none (q := q) (by rw [← HQ.out.1]; exact hz)
        rw [← HQ.out.1] at hn
        have HN := Lib.hid hn
        rw [hz] at c9
        change w1.cell? ⟨d, 9, none⟩ = some (.int .i64 0) at c9
        clear hz hn cp
        go_wp2_with fail
        go_ret2
        rw [HN.out]
        exact ⟨rfl, G1, HL.out.1, HL.out.2.1, HL.out.2.2⟩
      · have hn := next_byte (q := q) (by rw [← HQ.out.1]; exact hz)
        rw [← HQ.out.1] at hn
        have hzz : ((q1.s.left : Int) == 0) = false := by simp; omega
        rw [HQ.out.2.1.2 hz] at cp
        change w1.cell? ⟨d, 10, none⟩ = some (.pointer none) at cp
        have KB := Lib.hid (qbyte_any HL.out.1 (by omega) (by have := HQ.out.2.1.1; omega) (by have := HQ.out.2.2; have := HM.out.2.2; omega) HL.out.1.fo')
        obtain ⟨o, ho⟩ : ∃ o, o = q1.byte.1 := ⟨_, rfl⟩
        rw [← ho] at KB
        have HO := Lib.hid (And.intro hn ho)
        clear hz hn ho
        go_wp2_with fail
        refine KB.out.mono ?_
        rintro e w2 ⟨rfl, hp⟩
        have HP := Lib.hid (show QPost K d f lo bs fs ps w1 G1 (toldV o) q1.byte.2 (.returned (toldV o)) w2 from ⟨rfl, hp⟩)
        clear hp KB
        cases o with
        | none =>
          dsimp only [toldV]
          go_wp2_with fail
          go_ret2
          rw [HO.out.1, ← HO.out.2]
          exact HP.out.trans HL.out.2.1 HL.out.2.2
        | some b =>
          dsimp only [toldV]
          go_wp2_with fail
          go_ret2
          rw [HO.out.1, ← HO.out.2]
          exact HP.out.trans HL.out.2.1 HL.out.2.2
  · have hn := next_byte (q := q) (by rw [come_left h0]; exact h0)
    rw [come_left h0] at hn
    have hzz : ((q.s.left : Int) == 0) = false := by simp; omega
    have cp : w.cell? ⟨d, 10, none⟩ = some (pkV q.s.pk) := h.rd.blk.cell 10
    rw [hM.2 h0] at cp
    change w.cell? ⟨d, 10, none⟩ = some (.pointer none) at cp
    have KB := Lib.hid (qbyte_any h (by omega) (by have := hM.1; omega) ho h.fo')
    rw [hn]
    obtain ⟨o, ho⟩ : ∃ o, o = q.byte.1 := ⟨_, rfl⟩
    rw [← ho] at KB ⊢
    clear h hF hM h0 hn ho
    go_enter Tryz.func23, Tryz.ntmps23
    go_wp2_with fail
    refine KB.out.mono ?_
    rintro e w2 ⟨rfl, hp⟩
    have HP := Lib.hid (show QPost K d f lo bs fs ps w Gw (toldV o) q.byte.2 (.returned (toldV o)) w2 from ⟨rfl, hp⟩)
    clear hp KB
    cases o with
    | none =>
      dsimp only [toldV]
      go_wp2_with fail
      go_ret2
      exact HP.out
    | some b =>
      dsimp only [toldV]
      go_wp2_with fail
      go_ret2
      exact HP.out

/-- behind Finish: no source, nothing left -/
structure Dead2 (q q' : Lq) : Prop where
  o : q'.o = q.o
  src : q'.s.src = false
  left : q'.s.left = 0
  pk : q'.s.pk = none
  closed : q'.s.closed = q.s.closed
def EndPost (w : World) (d g f lo : Nat) (bs : List UInt8) (q : Lq) (b : Bool) (e : Ending) (w' : World) : Prop :=
  e = .returned (.bool b) ∧ ∃ q', Rdr w' d g f lo bs q' ∧ q'.o = q.o ∧ q'.s.closed = q.s.closed ∧ Only (fun i => i = d ∨ i = f) w w'
theorem rd_closed (q : Lq) : q.rd.s.closed = q.s.closed := by
  unfold Lq.rd
  split
  · split <;> rfl
  · rfl

/-- the source has more, or not -/
def MorePost (w : World) (d g f lo : Nat) (bs : List UInt8) (q : Lq) (e : Ending) (w' : World) : Prop :=
  ∃ b : UInt8, e = .returned (.tuple #[.int .u8 (b.toNat : Int), .bool (!q.r.isEmpty)]) ∧ ∃ q', Rdr w' d g f lo bs q' ∧ q'.o = q.o ∧ q'.s.closed = q.s.closed ∧ Only (fun i => i = d ∨ i = f) w w'
theorem qmore_any (h : Rdr w d g f lo bs q) (hs : q.s.src = true) : Calls Tryz.prog 226 #[.pointer (some ⟨f, 0, none⟩)] w (MorePost w d g f lo bs q) := by
  obtain ⟨at_, hF, hr⟩ := h.feed hs
  have hdf : d < f := Nat.lt_of_lt_of_le h.df h.ff
  by_cases hlt : at_ < bs.length
  · refine (feed_more hF hlt).mono ?_
    rintro e w1 ⟨rfl, hF1, hg1⟩
    have hne : q.r.isEmpty = false := by rw [hr]; simp; omega
    refine ⟨bs.getD at_ 0, by rw [hne]; rfl, { q with r := bs.drop (at_ + 1) }, ⟨h.blk.grown hg1 (fun e => by injection e with e; omega), fun _ => ⟨_, hF1, rfl⟩, h.df, h.ff, h.nd⟩, rfl, rfl, (Only.of_grown (S := fun i => i = f) hg1 rfl).mono fun i hi => .inr hi⟩
  · have := hF.le
    obtain rfl : at_ = bs.length := by omega
    refine (feed_end hF).mono ?_
    rintro e w1 ⟨rfl, n, rfl⟩
    have hne : q.r.isEmpty = true := by rw [hr]; simp
    exact ⟨0, by rw [hne]; rfl, q, h.only ((Only.refl (fun _ => False) w).drewN n) (fun hh => hh) (fun i hi => hi.elim), rfl, rfl, (Only.refl _ w).drewN n⟩

theorem ends_left {q : Lq} (h : q.s.left ≠ 0) : q.ends = false := by unfold Lq.ends; simp [h]
theorem ends_bad {q : Lq} (h : q.at_.s.src = false) : q.ends = false := by unfold Lq.ends; simp [h]
theorem ends_last {q : Lq} (h : q.last ≠ 0) : q.ends = false := by unfold Lq.ends; simp [h]
theorem ends_is {q : Lq} (h : q.s.left = 0) (hs : q.at_.s.src = true) (hl : q.last = 0) : q.ends = q.at_.r.isEmpty := by unfold Lq.ends; simp [h, hs, hl]
theorem at_off {q : Lq} (he : q.s.ended = false) : q.at_ = q.rd := by unfold Lq.at_; rw [if_neg (by simp [he])]
theorem at_on {q : Lq} (he : q.s.ended = true) : q.at_ = q := by unfold Lq.at_; rw [if_pos he]
theorem last_off {q : Lq} (he : q.s.ended = false) : q.last = q.b := by unfold Lq.last; rw [if_neg (by simp [he])]
theorem last_on {q : Lq} (he : q.s.ended = true) : q.last = 0 := by unfold Lq.last; rw [if_pos he]

set_option maxRecDepth 100000 in
set_option maxHeartbeats 4000000 in
/-- whether the stream ends -/
theorem qends_any (h : Rdr w d g f lo bs q) :
    Calls Tryz.prog 44 #[.pointer (some ⟨d, 0, none⟩)] w (EndPost w d g f lo bs q q.ends) := by
  have c9 : w.cell? ⟨d, 9, none⟩ = some (.int .i64 (q.s.left : Int)) := h.blk.cell 9
  have c3 : w.cell? ⟨d, 3, none⟩ = some (.bool q.s.ended) := h.blk.cell 3
  by_cases h0 : q.s.left = 0
  · have hgt : ¬ ((q.s.left : Int) > 0) := by omega
    rw [h0] at c9
    change w.cell? ⟨d, 9, none⟩ = some (.int .i64 0) at c9
    have HZ := Lib.hid h0
    cases he : q.s.ended with
    | true =>
      rw [he] at c3
      have KB := Lib.hid (qbad_any h.blk)
      have HE := Lib.hid (And.intro (at_on he) (last_on he))
      have HH := Lib.hid h
      clear he hgt h0
      cases hs : q.s.src with
      | false =>
        rw [hs] at KB
        have hend := ends_bad (q := q) (by rw [HE.out.1]; exact hs)
        rw [hend]
        clear hend hs h
        go_enter Tryz.func44, Tryz.ntmps44
        go_wp2_with fail
        refine KB.out.mono ?_
        rintro e w1 ⟨rfl, rfl⟩
        clear KB
        go_wp2_with fail
        go_ret
        exact ⟨rfl, q, HH.out, rfl, rfl, Only.refl _ _⟩
      | true =>
        rw [hs] at KB
        have hend := ends_is HZ.out (by rw [HE.out.1]; exact hs) HE.out.2
        rw [HE.out.1] at hend
        have KM := Lib.hid (qmore_any h hs)
        have c2 : w.cell? ⟨d, 2, none⟩ = some (srcV f q.s.src) := h.blk.cell 2
        rw [hs] at c2
        change w.cell? ⟨d, 2, none⟩ = some (.iface 55 (.pointer (some ⟨f, 0, none⟩))) at c2
        have hm := method_next
        have HEND := Lib.hid hend
        clear hend hs h
        go_enter Tryz.func44, Tryz.ntmps44
        go_wp2_with fail
        refine KB.out.mono ?_
        rintro e w1 ⟨rfl, rfl⟩
        clear KB
        cases hy : q.r.isEmpty with
        | false =>
          go_wp2_with fail
          refine KM.out.mono ?_
          rintro e w3 ⟨b, he, q3, hR3, ho3, hc3, hO3⟩
          rw [hy] at he
          subst he
          have HR3 := Lib.hid (And.intro hR3 (And.intro ho3 (And.intro hc3 hO3)))
          clear hR3 ho3 hc3 hO3 KM
          go_wp2_with fail
          go_ret
          rw [HEND.out, hy]
          exact ⟨rfl, q3, HR3.out.1, HR3.out.2.1, HR3.out.2.2.1, HR3.out.2.2.2⟩
        | true =>
          go_wp2_with fail
          refine KM.out.mono ?_
          rintro e w3 ⟨b, he, q3, hR3, ho3, hc3, hO3⟩
          rw [hy] at he
          subst he
          have HR3 := Lib.hid (And.intro hR3 (And.intro ho3 (And.intro hc3 hO3)))
          clear hR3 ho3 hc3 hO3 KM
          go_wp2_with fail
          go_ret
          rw [HEND.out, hy]
          exact ⟨rfl, q3, HR3.out.1, HR3.out.2.1, HR3.out.2.2.1, HR3.out.2.2.2⟩
    | false =>
      rw [he] at c3
      have KR := Lib.hid (qread_any h)
      have HE := Lib.hid (And.intro (at_off he) (last_off he))
      clear he hgt h0 h
      go_enter Tryz.func44, Tryz.ntmps44
      go_wp2_with fail
      refine KR.out.mono ?_
      rintro e w1 ⟨rfl, hR1, hO1⟩
      have KB := qbad_any hR1.blk
      have HR := Lib.hid (And.intro hR1 hO1)
      have hqo : q.rd.o = q.o := rd_o q
      have hqc : q.rd.s.closed = q.s.closed := rd_closed q
      obtain ⟨q1, hq1⟩ : ∃ q1, q1 = q.rd := ⟨_, rfl⟩
      obtain ⟨x, hx⟩ : ∃ x, x = q.b := ⟨_, rfl⟩
      have HQ := Lib.hid (And.intro hq1 (And.intro hx (And.intro (hq1 ▸ hqo) (hq1 ▸ hqc))))
      rw [← hq1] at KB HR
      rw [← hx]
      have KB := Lib.hid KB
      clear hR1 hO1 KR hq1 hx hqo hqc c3 c9
      go_wp2_with fail
      refine KB.out.mono ?_
      rintro e w2 ⟨rfl, rfl⟩
      clear KB
      cases hs : q1.s.src with
      | false =>
        have HEND := Lib.hid (ends_bad (q := q) (by rw [HE.out.1, ← HQ.out.1]; exact hs))
        go_wp2_with fail
        go_ret
        rw [HEND.out]
        exact ⟨rfl, q1, HR.out.1, HQ.out.2.2.1, HQ.out.2.2.2, HR.out.2⟩
      | true =>
        by_cases h0 : x = 0
        · have HEND := Lib.hid (show q.ends = q1.r.isEmpty by rw [ends_is HZ.out (by rw [HE.out.1, ← HQ.out.1]; exact hs) (by rw [HE.out.2, ← HQ.out.2.1]; exact h0), HE.out.1, ← HQ.out.1])
          have KM := Lib.hid (qmore_any HR.out.1 hs)
          have c2 : w1.cell? ⟨d, 2, none⟩ = some (srcV f q1.s.src) := HR.out.1.blk.cell 2
          rw [hs] at c2
          change w1.cell? ⟨d, 2, none⟩ = some (.iface 55 (.pointer (some ⟨f, 0, none⟩))) at c2
          have hm := method_next
          subst h0
          cases hy : q1.r.isEmpty with
          | false =>
            go_wp2_with fail
            refine KM.out.mono ?_
            rintro e w3 ⟨b, he, q3, hR3, ho3, hc3, hO3⟩
            rw [hy] at he
            subst he
            have HR3 := Lib.hid (And.intro hR3 (And.intro ho3 (And.intro hc3 hO3)))
            clear hR3 ho3 hc3 hO3 KM
            go_wp2_with fail
            go_ret
            rw [HEND.out, hy]
            exact ⟨rfl, q3, HR3.out.1, HR3.out.2.1.trans HQ.out.2.2.1, HR3.out.2.2.1.trans HQ.out.2.2.2, HR.out.2.trans HR3.out.2.2.2⟩
          | true =>
            go_wp2_with fail
            refine KM.out.mono ?_
            rintro e w3 ⟨b, he, q3, hR3, ho3, hc3, hO3⟩
            rw [hy] at he
            subst he
            have HR3 := Lib.hid (And.intro hR3 (And.intro ho3 (And.intro hc3 hO3)))
            clear hR3 ho3 hc3 hO3 KM
            go_wp2_with fail
            go_ret
            rw [HEND.out, hy]
            exact ⟨rfl, q3, HR3.out.1, HR3.out.2.1.trans HQ.out.2.2.1, HR3.out.2.2.1.trans HQ.out.2.2.2, HR.out.2.trans HR3.out.2.2.2⟩
        · have HEND := Lib.hid (ends_last (q := q) (by rw [HE.out.2, ← HQ.out.2.1]; exact h0))
          have hx0 : ((x.toNat : Int) != 0) = true := by
            have : x.toNat ≠ 0 := fun e => h0 (UInt8.toNat_inj.1 (by simpa using e))
            simp; omega
          clear h0
          go_wp2_with fail
          go_ret
          rw [HEND.out]
          exact ⟨rfl, q1, HR.out.1, HQ.out.2.2.1, HQ.out.2.2.2, HR.out.2⟩
  · have hgt : (q.s.left : Int) > 0 := by omega
    rw [ends_left h0]
    have HH := Lib.hid h
    clear h h0
    go_enter Tryz.func44, Tryz.ntmps44
    go_wp2_with fail
    go_ret
    exact ⟨rfl, q, HH.out, rfl, rfl, Only.refl _ _⟩

def FinPost (w : World) (d g f lo : Nat) (bs : List UInt8) (q : Lq) (e : Ending) (w' : World) : Prop :=
  e = .returned (.bool q.ends) ∧ ∃ q', Rdr w' d g f lo bs q' ∧ Dead2 q q' ∧ Only (fun i => i = d ∨ i = f) w w'
set_option maxRecDepth 100000 in
set_option maxHeartbeats 1000000 in
theorem qfinish_any (h : Rdr w d g f lo bs q) :
    Calls Tryz.prog 26 #[.pointer (some ⟨d, 0, none⟩)] w (FinPost w d g f lo bs q) := by
  have KE := Lib.hid (qends_any h)
  clear h
  go_enter Tryz.func26, Tryz.ntmps26
  go_wp2_with fail
  refine KE.out.mono ?_
  rintro e w1 ⟨rfl, q1, hR1, ho1, hc1, hO1⟩
  have KF := Lib.hid (qfail_any hR1.blk)
  have HR := Lib.hid (And.intro hR1 (And.intro ho1 (And.intro hc1 hO1)))
  clear hR1 ho1 hc1 hO1 KE
  go_wp2_with fail
  refine KF.out.mono ?_
  rintro e w2 ⟨rfl, hB2, hO2⟩
  have HF := Lib.hid (And.intro (rdr_failed HR.out.1 hB2) (HR.out.2.2.2.trans (hO2.mono fun i hi => .inl hi)))
  clear hB2 hO2 KF
  go_wp2_with fail
  go_ret
  exact ⟨rfl, q1.fail, HF.out.1, ⟨HR.out.2.1, rfl, rfl, rfl, HR.out.2.2.1⟩, HF.out.2⟩
/-- a new stream begins -/
def Lq.begun (q : Lq) (b : List UInt8) : Lq := { q with s := { q.s with src := true, ended := false, nd := 7, left := 0 }, r := b }
set_option maxRecDepth 100000 in
set_option maxHeartbeats 1000000 in
theorem qbegin_any {s : Ds} {o : List UInt8} (hB : Blk w d 98 (d2Cells g f s)) (hF : Feed w f lo bs 0) (hc : s.closed = false) (hd : d < lo) :
    Calls Tryz.prog 24 #[.pointer (some ⟨d, 0, none⟩), .iface 55 (.pointer (some ⟨f, 0, none⟩))] w fun e w' => e = .returned (.tuple #[]) ∧ Rdr w' d g f lo bs ((⟨s, [], o⟩ : Lq).begun bs) ∧ Only (fun i => i = d) w w' := by
  have c1 : w.cell? ⟨d, 1, none⟩ = some (.bool s.closed) := hB.cell 1
  have c2 : w.cell? ⟨d, 2, none⟩ = some (srcV f s.src) := hB.cell 2
  have c3 : w.cell? ⟨d, 3, none⟩ = some (.bool s.ended) := hB.cell 3
  have c4 : w.cell? ⟨d, 4, none⟩ = some (.int .u8 (s.nd : Int)) := hB.cell 4
  have c9 : w.cell? ⟨d, 9, none⟩ = some (.int .i64 (s.left : Int)) := hB.cell 9
  rw [hc] at c1
  have z2 := hB.free 2
  have z3 := hB.free 3
  have z4 := hB.free 4
  have z9 := hB.free 9
  have hO := ((((Only.refl (fun i => i = d) w).setCell (p := ⟨d, 2, none⟩) (.inl rfl) (.iface 55 (.pointer (some ⟨f, 0, none⟩)))).setCell (p := ⟨d, 3, none⟩) (.inl rfl) (.bool false)).setCell (p := ⟨d, 4, none⟩) (.inl rfl) (.int .u8 7)).setCell (p := ⟨d, 9, none⟩) (.inl rfl) (.int .i64 0)
  have hB4 := (((hB.put 2 (.iface 55 (.pointer (some ⟨f, 0, none⟩)))).put 3 (.bool false)).put 4 (.int .u8 7)).put 9 (.int .i64 0)
  have hF4 := hF.only hO (fun i hi => .inl (by omega))
  have HE := Lib.hid (And.intro (show Rdr _ d g f lo bs ((⟨s, [], o⟩ : Lq).begun bs) from ⟨hB4, fun _ => ⟨0, hF4, rfl⟩, hd, hF.lo, (by show 7 < 256; omega)⟩) hO)
  clear hB hF hd hO hB4 hF4 hc
  go_enter Tryz.func24, Tryz.ntmps24
  go_wp2_with fail
  first | go_end0 | refine bodyPost_ret (results_none rfl _ _ _) rfl ?_
  exact ⟨rfl, HE.out.1, HE.out.2⟩
end
end Go.Proofs.YtdhhibfppcpieaaGreatDoor

/-
  A row of bytes of the call's own, its block named; rows compared.
-/
namespace Go.Proofs.YtdhhibfppcpieaaGreatDoor
open Go.RowKit

/-- Block q holds the bytes bs. -/
def Byt (w : World) (q c : Nat) (bs : List UInt8) : Prop := w.ownsRow 0 5 1 (.slice (some ⟨q, 0, none⟩) bs.length c) bs.length (bv bs)

theorem bv_set (bs : List UInt8) (i : Nat) (y : UInt8) : (bv bs).set i (.int .u8 (y.toNat : Int)) = bv (bs.set i y) := by
  simp [bv, List.map_set]

section
variable {w w' : World} {q c : Nat} {bs : List UInt8}
theorem Byt.cell (h : Byt w q c bs) {i : Nat} (hi : i < bs.length) : w.cell? ⟨q, i, none⟩ = some (.int .u8 ((bs.getD i 0).toNat : Int)) := by
  rw [World.ownsRow.cellAt h i (by omega), bv_get bs i hi]
theorem Byt.free (h : Byt w q c bs) (i : Nat) : w.frozen? ⟨q, i, none⟩ = false := World.ownsRow.frozenAt h i
theorem Byt.put (h : Byt w q c bs) (i : Nat) (y : UInt8) : Byt (w.setCell ⟨q, i, none⟩ (.int .u8 (y.toNat : Int))) q c (bs.set i y) := by
  have := (World.ownsRow.stored h i (.int .u8 (y.toNat : Int))).1
  rw [bv_set] at this
  unfold Byt
  rw [List.length_set]
  exact this
theorem Byt.drewN (h : Byt w q c bs) (n : Nat) : Byt (w.drewN n) q c bs := h
theorem Byt.only {S : Nat → Prop} (h : Byt w q c bs) (hb : Only S w w') (hS : ¬ S q) : Byt w' q c bs := own_only h hb hS
theorem Byt.lt (h : Byt w q c bs) : q < w.heap.size := (World.ownsRow.lt h q rfl).2
theorem Byt.own (h : Byt w q c bs) : w.ownsRow 0 5 1 (.slice (some ⟨q, 0, none⟩) bs.length c) bs.length (bv bs) := h
theorem Byt.cap (h : Byt w q c bs) : bs.length ≤ c ∧ c ≤ maxLen := by
  obtain ⟨_, h2, h3, _⟩ := own_facts h
  exact ⟨h2, h3⟩
end

set_option maxHeartbeats 1000000 in
theorem bytesSame_any {A B : Option Addr} {n ca cb : Nat} {bs : List UInt8} {w : World} (hA : Sl w A n (bv bs)) (hB : Sl w B n (bv bs)) (hn : n ≤ 1000000000) :
    Calls Tryz.prog 14 #[.slice A n ca, .slice B n cb] w fun e w' => e = .returned (.bool true) ∧ ∃ d, w.drewN d = w' := by
  have HA := Lib.hid hA
  have HB := Lib.hid hB
  have hl : bs.length = n := by rw [← bv_length]; exact hA.1
  have HL := Lib.hid hl
  clear hA hB hl
  go_enter Tryz.func14, Tryz.ntmps14
  go_wp2_with fail
  go_loopw [5] (fun i wr => ∃ j k : Nat, j ≤ n ∧ i = .int .i64 (j : Int) ∧ wr = w.drewN k) (fun i _ => n - (intOf i).toNat)
  case atStart => exact ⟨0, 0, Nat.zero_le _, rfl, rfl⟩
  case round =>
    obtain ⟨j, k, hj, rfl, rfl⟩ := hrel
    by_cases hlt : j < n
    · obtain ⟨ba, oa, rfl, hba, hca⟩ := HA.out.2 (by omega)
      obtain ⟨bb, ob, rfl, hbb, hcb⟩ := HB.out.2 (by omega)
      have c1 : w.cell? ⟨ba, oa + j, none⟩ = some (.int .u8 ((bs.getD j 0).toNat : Int)) := by rw [hca j hlt, bv_get bs j (by have := HL.out; omega)]
      have c2 : w.cell? ⟨bb, ob + j, none⟩ = some (.int .u8 ((bs.getD j 0).toNat : Int)) := by rw [hcb j hlt, bv_get bs j (by have := HL.out; omega)]
      generalize bs.getD j 0 = x at *
      have i0 : (0 : Int) ≤ (j : Int) := by omega
      have i1 : (j : Int) < (n : Int) := by omega
      clear hca hcb
      go_wp2_with fail
      go_quiet (fail)
      go_wp2_with fail
      go_roundw
      case rel => exact ⟨j + 1, k + nq, by omega, by go_num, rfl⟩
      case measure => simp [intOf]; omega
    · obtain rfl : j = n := by omega
      go_wp2_with fail
      go_ret
      exact ⟨rfl, _, rfl⟩
end Go.Proofs.YtdhhibfppcpieaaGreatDoor
