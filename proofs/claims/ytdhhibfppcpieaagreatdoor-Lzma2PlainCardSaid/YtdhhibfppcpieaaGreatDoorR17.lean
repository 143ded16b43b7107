/-
  LqRead: put together.
-/
import Derived.Test.YtdhhibfppcpieaaGreatDoorR16
set_option linter.unusedVariables false
set_option linter.unusedSimpArgs false
/-
  The decoder of LZMA2: a byte is read, a number of bytes.
-/
namespace Go.Proofs.YtdhhibfppcpieaaGreatDoor
open Go.RowKit

def srcV (f : Nat) (b : Bool) : Value := if b = true then .iface 55 (.pointer (some ⟨f, 0, none⟩)) else .nilIface
def pkV : Option Nat → Value
  | none => .pointer none
  | some p => .pointer (some ⟨p, 0, none⟩)
def d2Cells (g f : Nat) (s : Ds) : Array Value :=
  #[.pointer (some ⟨g, 0, none⟩), .bool s.closed, srcV f s.src, .bool s.ended, .int .u8 (s.nd : Int), .int .i64 s.a0, .int .i64 s.a1, .int .i64 s.a2, .int .i64 s.a3, .int .i64 (s.left : Int), pkV s.pk]

section
variable {w w' : World} {d g f lo : Nat} {s : Ds} {q : Lq} {bs : List UInt8}

set_option maxRecDepth 100000 in
set_option maxHeartbeats 1000000 in
theorem qbad_any (h : Blk w d 98 (d2Cells g f s)) :
    Calls Tryz.prog 70 #[.pointer (some ⟨d, 0, none⟩)] w fun e w' => e = .returned (.bool (!s.src)) ∧ w = w' := by
  have c2 : w.cell? ⟨d, 2, none⟩ = some (srcV f s.src) := h.cell 2
  clear h
  generalize s.src = b at *
  have q0 : ∀ w : World, (binOp .eql 94 .nilIface .nilIface).run Tryz.prog w = .ok (.bool true) w := fun _ => by kernel_rfl
  have q1 : ∀ w : World, (binOp .eql 94 (.iface 55 (.pointer (some ⟨f, 0, none⟩))) .nilIface).run Tryz.prog w = .ok (.bool false) w := fun _ => by kernel_rfl
  cases b
  · change w.cell? ⟨d, 2, none⟩ = some .nilIface at c2
    go_enter Tryz.func70, Tryz.ntmps70
    go_wp2_with fail
    go_ret
    exact ⟨rfl, rfl⟩
  · change w.cell? ⟨d, 2, none⟩ = some (.iface 55 (.pointer (some ⟨f, 0, none⟩))) at c2
    go_enter Tryz.func70, Tryz.ntmps70
    go_wp2_with fail
    go_ret
    exact ⟨rfl, rfl⟩

set_option maxRecDepth 100000 in
set_option maxHeartbeats 1000000 in
theorem qfail_any (h : Blk w d 98 (d2Cells g f s)) :
    Calls Tryz.prog 45 #[.pointer (some ⟨d, 0, none⟩)] w fun e w' => e = .returned (.tuple #[]) ∧ Blk w' d 98 (d2Cells g f s.fail) ∧ Only (fun i => i = d) w w' := by
  have c2 : w.cell? ⟨d, 2, none⟩ = some (srcV f s.src) := h.cell 2
  have c9 : w.cell? ⟨d, 9, none⟩ = some (.int .i64 (s.left : Int)) := h.cell 9
  have cp : w.cell? ⟨d, 10, none⟩ = some (pkV s.pk) := h.cell 10
  have z2 := h.free 2
  have z9 := h.free 9
  have zp := h.free 10
  have hO := (((Only.refl (fun i => i = d) w).setCell (p := ⟨d, 2, none⟩) (.inl rfl) .nilIface).setCell (p := ⟨d, 10, none⟩) (.inl rfl) (.pointer none)).setCell (p := ⟨d, 9, none⟩) (.inl rfl) (.int .i64 0)
  have hB := ((h.put 2 .nilIface).put 10 (.pointer none)).put 9 (.int .i64 0)
  have HE := Lib.hid (And.intro (show Blk _ d 98 (d2Cells g f s.fail) from hB) hO)
  clear h hB hO
  go_enter Tryz.func45, Tryz.ntmps45
  go_wp2_with fail
  first | go_end0 | refine bodyPost_ret (results_none rfl _ _ _) rfl ?_
  exact ⟨rfl, HE.out.1, HE.out.2⟩

/-- the decoder's fields, and what its source has left -/
structure Rdr (w : World) (d g f lo : Nat) (bs : List UInt8) (q : Lq) : Prop where
  blk : Blk w d 98 (d2Cells g f q.s)
  feed : q.s.src = true → ∃ at_, Feed w f lo bs at_ ∧ q.r = bs.drop at_
  df : d < lo
  ff : lo ≤ f
  nd : q.s.nd < 256
theorem Rdr.only {S : Nat → Prop} (h : Rdr w d g f lo bs q) (hO : Only S w w') (h1 : ¬ S d) (h2 : ∀ i, S i → i < lo ∨ f < i) : Rdr w' d g f lo bs q :=
  ⟨h.blk.only hO h1, fun hs => by obtain ⟨a, hF, hr⟩ := h.feed hs; exact ⟨a, hF.only hO h2, hr⟩, h.df, h.ff, h.nd⟩
def RdrPost (w : World) (d g f lo : Nat) (bs : List UInt8) (v : Value) (q : Lq) (e : Ending) (w' : World) : Prop :=
  e = .returned v ∧ Rdr w' d g f lo bs q ∧ Only (fun i => i = d ∨ i = f) w w'
/-- a field is stored -/
theorem Rdr.put {q' : Lq} (h : Rdr w d g f lo bs q) (k : Nat) (v : Value) (hc : (d2Cells g f q.s).setIfInBounds k v = d2Cells g f q'.s) (hs : q'.s.src = q.s.src) (hr : q'.r = q.r) (hn : q'.s.nd = q.s.nd ∨ q'.s.nd ≤ 7 := by exact .inl rfl) : Rdr (w.setCell ⟨d, k, none⟩ v) d g f lo bs q' := by
  refine ⟨(by have := h.blk.put k v; rw [hc] at this; exact this), fun h1 => ?_, h.df, h.ff, by have := h.nd; omega⟩
  obtain ⟨a, hF, e⟩ := h.feed (hs ▸ h1)
  exact ⟨a, hF.only ((Only.refl (fun i => i = d) w).setCell (p := ⟨d, k, none⟩) (.inl rfl) v) (fun i hi => .inl (by have := h.df; omega)), hr.trans e⟩

theorem rdr_failed (h : Rdr w d g f lo bs q) (hB : Blk w' d 98 (d2Cells g f q.s.fail)) : Rdr w' d g f lo bs q.fail :=
  ⟨hB, (fun hs => by cases hs), h.df, h.ff, h.nd⟩

set_option maxRecDepth 100000 in
set_option maxHeartbeats 1000000 in
/-- a byte is read -/
theorem qread_any (h : Rdr w d g f lo bs q) :
    Calls Tryz.prog 69 #[.pointer (some ⟨d, 0, none⟩)] w (RdrPost w d g f lo bs (.int .u8 (q.b.toNat : Int)) q.rd) := by
  have KB := Lib.hid (qbad_any h.blk)
  cases hs : q.s.src with
  | false =>
    rw [rd_none hs, b_none hs]
    rw [hs] at KB
    have HH := Lib.hid h
    clear h hs
    go_enter Tryz.func69, Tryz.ntmps69
    go_wp2_with fail
    refine KB.out.mono ?_
    rintro e w1 ⟨rfl, rfl⟩
    clear KB
    go_wp2_with fail
    go_ret
    exact ⟨rfl, HH.out, Only.refl _ _⟩
  | true =>
    rw [hs] at KB
    have c2 : w.cell? ⟨d, 2, none⟩ = some (srcV f q.s.src) := h.blk.cell 2
    rw [hs] at c2
    change w.cell? ⟨d, 2, none⟩ = some (.iface 55 (.pointer (some ⟨f, 0, none⟩))) at c2
    obtain ⟨at_, hF, hr⟩ := h.feed hs
    have hm := method_next
    have hdf : d < f := Nat.lt_of_lt_of_le h.df h.ff
    by_cases hlt : at_ < bs.length
    · have hd : bs.drop at_ = bs[at_] :: bs.drop (at_ + 1) := List.drop_eq_getElem_cons hlt
      have hx : bs.getD at_ 0 = bs[at_] := by simp [List.getD, hlt]
      have KN := feed_more hF hlt
      rw [hx] at KN
      rw [rd_more hs (hr.trans hd), b_more hs (hr.trans hd)]
      have KN := Lib.hid KN
      have HH := Lib.hid (And.intro h hdf)
      clear h hs hF hr hd hx hdf
      generalize bs[at_] = x at *
      go_enter Tryz.func69, Tryz.ntmps69
      go_wp2_with fail
      refine KB.out.mono ?_
      rintro e w1 ⟨rfl, rfl⟩
      clear KB
      go_wp2_with fail
      refine KN.out.mono ?_
      rintro e w1 ⟨rfl, hF1, hg1⟩
      have HF1 := Lib.hid (And.intro hF1 hg1)
      clear hF1 hg1 KN c2
      go_wp2_with fail
      go_ret
      obtain ⟨h, hdf⟩ := HH.out
      obtain ⟨hF1, hg1⟩ := HF1.out
      refine ⟨rfl, ⟨h.blk.grown hg1 (fun e => by injection e with e; omega), fun _ => ⟨_, hF1, rfl⟩, h.df, h.ff, h.nd⟩, (Only.of_grown (S := fun i => i = f) hg1 rfl).mono fun i hi => .inr hi⟩
    · have := hF.le
      obtain rfl : at_ = bs.length := by omega
      have hn : q.r = [] := by rw [hr]; simp
      rw [rd_fail hs hn, b_end hs hn]
      have KN := Lib.hid (feed_end hF)
      have HH := Lib.hid h
      clear h hs hF hr hn hdf this hlt
      go_enter Tryz.func69, Tryz.ntmps69
      go_wp2_with fail
      refine KB.out.mono ?_
      rintro e w1 ⟨rfl, rfl⟩
      clear KB
      go_wp2_with fail
      refine KN.out.mono ?_
      rintro e w1 ⟨rfl, n, rfl⟩
      have KF := Lib.hid (qfail_any (HH.out.blk.drewN n))
      clear KN c2
      go_wp2_with fail
      refine KF.out.mono ?_
      rintro e w2 ⟨rfl, hB, hO⟩
      have HE := Lib.hid (And.intro hB (Only.of_drewN hO))
      clear hB hO KF
      go_wp2_with fail
      go_ret
      exact ⟨rfl, rdr_failed HH.out HE.out.1, HE.out.2.mono fun i hi => .inl hi⟩

set_option maxRecDepth 100000 in
set_option maxHeartbeats 1000000 in
/-- a number of bytes is read -/
theorem qcount_any (h : Rdr w d g f lo bs q) :
    Calls Tryz.prog 96 #[.pointer (some ⟨d, 0, none⟩)] w (RdrPost w d g f lo bs (.int .i64 (q.count : Int)) q.two) := by
  have KR := Lib.hid (qread_any h)
  have h0 := q.b.toNat_lt
  have h1 := q.rd.b.toNat_lt
  have hc : (q.count : Int) = (q.b.toNat : Int) * 256 + (q.rd.b.toNat : Int) + 1 := by unfold Lq.count; omega
  rw [hc]
  clear h hc
  have HB := Lib.hid (And.intro h0 h1)
  go_enter Tryz.func96, Tryz.ntmps96
  go_wp2_with fail
  refine KR.out.mono ?_
  rintro e w1 ⟨rfl, hR1, hO1⟩
  have KR2 := Lib.hid (qread_any hR1)
  have HO1 := Lib.hid hO1
  have e0 : IntKind.i64.wrap (q.b.toNat : Int) = (q.b.toNat : Int) := IntWalk.i64_in _ (by omega)
  have e1 : IntKind.i64.wrap ((q.b.toNat : Int) * 256) = (q.b.toNat : Int) * 256 := IntWalk.i64_in _ (by omega)
  have e2 : IntKind.i64.wrap (q.rd.b.toNat : Int) = (q.rd.b.toNat : Int) := IntWalk.i64_in _ (by omega)
  have e3 : IntKind.i64.wrap ((q.b.toNat : Int) * 256 + (q.rd.b.toNat : Int)) = (q.b.toNat : Int) * 256 + (q.rd.b.toNat : Int) := IntWalk.i64_in _ (by omega)
  have e4 : IntKind.i64.wrap ((q.b.toNat : Int) * 256 + (q.rd.b.toNat : Int) + 1) = (q.b.toNat : Int) * 256 + (q.rd.b.toNat : Int) + 1 := IntWalk.i64_in _ (by omega)
  generalize q.b.toNat = x at *
  generalize q.rd.b.toNat = y at *
  clear hR1 hO1 KR h0 h1
  go_wp2_with fail
  refine KR2.out.mono ?_
  rintro e w2 ⟨rfl, hR2, hO2⟩
  have HE := Lib.hid (And.intro hR2 (HO1.out.trans hO2))
  clear hR2 hO2 KR2
  go_wp2_with fail
  go_ret
  exact ⟨rfl, HE.out.1, HE.out.2⟩
end
end Go.Proofs.YtdhhibfppcpieaaGreatDoor
