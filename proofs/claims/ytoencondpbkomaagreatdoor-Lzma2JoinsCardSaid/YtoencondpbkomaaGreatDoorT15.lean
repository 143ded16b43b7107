/-
  LqMem, LqRead, ZqAnew, LwLen: put together.
-/
import Derived.Test.YtoencondpbkomaaGreatDoorT01
import Derived.Test.YtoencondpbkomaaGreatDoorT14
import Derived.Test.YtoencondpbkomaaGreatDoorT12
import Derived.Test.YtoencondpbkomaaGreatDoorT07
import Derived.Test.YtoencondpbkomaaGreatDoorT13
set_option linter.unusedVariables false
set_option linter.unusedSimpArgs false
/-
  The decoder of LZMA2 in memory; its small calls.
-/
namespace Go.Proofs.YtoencondpbkomaaGreatDoor
open Go.RowKit

/-- A decoder of LZMA, whether or not it has a decoder of ranges: the bytes in its window are out. -/
structure Rz (K : Kon) (w : World) (Gw : Nat → Prop) (out : List UInt8) (fs : List Value) (ps : List Nat) : Prop where
  row : Rk K (fs.set 9 (.int .i64 (out.length : Int))) w ps
  win : Pwin w K.wg Gw K.m ⟨K.sz, out, false⟩
  f6 : fs[6]? = some (.pointer (some ⟨K.wg, 0, none⟩))
  f7 : fs[7]? = some (.pointer (some ⟨K.m, 0, none⟩))
  f8 : fs[8]? = some (.int .i64 K.room)
  gn : K.g ≠ K.lb
  mg : K.m ≠ K.g
  mb : K.m ≠ K.lb
  wd : ∀ i, Gw i → i ≠ K.g ∧ i ≠ K.lb ∧ i ≠ K.m
  sz : K.sz ≤ 1048576
  mo : K.m < w.heap.size
def RzPost (K : Kon) (w : World) (Gw : Nat → Prop) (out : List UInt8) (fs : List Value) (ps : List Nat) (e : Ending) (w' : World) : Prop :=
  e = .returned (.tuple #[]) ∧ ∃ Gw', Rz K w' Gw' out fs ps ∧ (∀ i, Gw' i → Gw i ∨ w.heap.size ≤ i) ∧ Only (fun i => i = K.g ∨ Gw i) w w'

section
variable {K : Kon} {w w' : World} {Gw S : Nat → Prop} {out : List UInt8} {fs : List Value} {ps : List Nat}
theorem Rz.only (h : Rz K w Gw out fs ps) (hO : Only S w w') (h1 : ¬ S K.g) (h2 : ¬ S K.lb) (h3 : ∀ i, Gw i → ¬ S i) : Rz K w' Gw out fs ps :=
  ⟨(K.prb _ h.gn).only h.row hO (fun i hi hs => by rcases hi with rfl | rfl; exact h1 hs; exact h2 hs), h.win.only hO h3, h.f6, h.f7, h.f8, h.gn, h.mg, h.mb, h.wd, h.sz, Nat.lt_of_lt_of_le h.mo hO.size⟩
theorem Rz.cell6 (h : Rz K w Gw out fs ps) : w.cell? ⟨K.g, 6, none⟩ = some (.pointer (some ⟨K.wg, 0, none⟩)) := by
  rw [show (6 : Nat) = fat 6 from rfl, h.row.1.cell 6 (by decide), List.getElem?_set_ne (by decide)]
  exact h.f6
theorem Rz.cell9 (h : Rz K w Gw out fs ps) : w.cell? ⟨K.g, 9, none⟩ = some (.int .i64 (out.length : Int)) := by
  have hl : fs.length = 19 := by
    obtain ⟨_, _, _, h, _⟩ := h.row.1
    simpa using h
  rw [show (9 : Nat) = fat 9 from rfl, h.row.1.cell 9 (by decide), List.getElem?_set_self (by omega)]
/-- the window has turned, then the place is told -/
theorem Rz.moved {w1 : World} {G1 : Nat → Prop} {out' : List UInt8} (h : Rz K w Gw out fs ps) (hW : Pwin w1 K.wg G1 K.m ⟨K.sz, out', false⟩) (hG : ∀ i, G1 i → Gw i ∨ w.heap.size ≤ i) (hO : Only Gw w w1) :
    RzPost K w Gw out' fs ps (.returned (.tuple #[])) (w1.setCell ⟨K.g, 9, none⟩ (.int .i64 (out'.length : Int))) := by
  have hg : K.g < w.heap.size := h.row.1.lt
  have hb : K.lb < w.heap.size := h.row.2.1.lt
  have hR1 : Rk K (fs.set 9 (.int .i64 (out.length : Int))) w1 ps := (K.prb _ h.gn).only h.row hO (fun i hi hs => by
    rcases hi with rfl | rfl
    · exact (h.wd _ hs).1 rfl
    · exact (h.wd _ hs).2.1 rfl)
  have hR2 := hR1.put h.gn 9 (by decide) (.int .i64 (out'.length : Int))
  rw [List.set_set] at hR2
  have hOg := (Only.refl (fun i => i = K.g) w1).setCell (p := ⟨K.g, 9, none⟩) (.inl rfl) (.int .i64 (out'.length : Int))
  have hs1 : w.heap.size ≤ w1.heap.size := hO.size
  have hgg : ∀ i, G1 i → i ≠ K.g := fun i hi e => by
    rcases hG i hi with h' | h'
    · exact (h.wd i h').1 e
    · omega
  refine ⟨rfl, G1, ⟨hR2, hW.only hOg (fun i hi e => hgg i hi e), h.f6, h.f7, h.f8, h.gn, h.mg, h.mb, fun i hi => ?_, h.sz, ?_⟩, hG, (hO.mono fun i hi => .inr hi).trans (hOg.mono fun i hi => .inl hi)⟩
  rcases hG i hi with h' | h'
  · exact h.wd i h'
  · refine ⟨by omega, by omega, fun e => ?_⟩
    have : K.m < w.heap.size := h.mo
    omega
  · exact Nat.lt_of_lt_of_le h.mo (Nat.le_trans hs1 hOg.size)

set_option maxRecDepth 100000 in
set_option maxHeartbeats 2000000 in
/-- a byte that no packet told -/
theorem zput_one {b : UInt8} (h : Rz K w Gw out fs ps) (ho : out.length ≤ 1000000) :
    Calls Tryz.prog 77 #[.pointer (some ⟨K.g, 0, none⟩), .int .u8 (b.toNat : Int)] w (RzPost K w Gw (out ++ [b]) fs ps) := by
  have c6 := h.cell6
  have KP := Lib.hid (wput_any (b := b) h.win h.sz (show out.length ≤ 1000000000 by omega))
  have e1 : IntKind.i64.wrap ((out.length : Int) + 1) = (out.length : Int) + 1 := IntWalk.i64_in _ (by omega)
  have HH := Lib.hid h
  clear h ho
  go_enter Tryz.func77, Tryz.ntmps77
  go_wp2_with fail
  refine KP.out.mono ?_
  rintro e w1 ⟨rfl, G1, hW, hG, hO⟩
  have hm := HH.out.moved (out' := out ++ [b]) hW hG hO
  have hRz1 : Rz K w1 Gw out fs ps ∨ True := .inr trivial
  have c9 : w1.cell? ⟨K.g, 9, none⟩ = some (.int .i64 (out.length : Int)) := by
    rw [hO.cell HH.out.row.1.lt (fun hh => (HH.out.wd _ hh).1 rfl)]
    exact HH.out.cell9
  have z9 : w1.frozen? ⟨K.g, 9, none⟩ = false := by
    obtain ⟨cs, hB, _⟩ := HH.out.row.1
    exact (hB.only hO (fun hh => (HH.out.wd _ hh).1 rfl)).free 9
  rw [List.length_append, List.length_singleton, Int.natCast_add, Int.natCast_one] at hm
  have HM := Lib.hid hm
  clear hm hW hG hO KP c6 hRz1
  go_wp2_with fail
  first | go_end0 | refine bodyPost_ret (results_none rfl _ _ _) rfl ?_
  exact HM.out

set_option maxRecDepth 100000 in
set_option maxHeartbeats 2000000 in
/-- the window is emptied -/
theorem zempty_one (h : Rz K w Gw out fs ps) :
    Calls Tryz.prog 74 #[.pointer (some ⟨K.g, 0, none⟩)] w (RzPost K w Gw [] fs ps) := by
  have c6 := h.cell6
  have KP := Lib.hid (wempty_any h.win)
  have HH := Lib.hid h
  clear h
  go_enter Tryz.func74, Tryz.ntmps74
  go_wp2_with fail
  refine KP.out.mono ?_
  rintro e w1 ⟨rfl, G1, hW, hG, hO⟩
  have hm := HH.out.moved (out' := []) hW hG hO
  have z9 : w1.frozen? ⟨K.g, 9, none⟩ = false := by
    obtain ⟨cs, hB, _⟩ := HH.out.row.1
    exact (hB.only hO (fun hh => (HH.out.wd _ hh).1 rfl)).free 9
  have c9 : w1.cell? ⟨K.g, 9, none⟩ = some (.int .i64 (out.length : Int)) := by
    rw [hO.cell HH.out.row.1.lt (fun hh => (HH.out.wd _ hh).1 rfl)]
    exact HH.out.cell9
  have HM := Lib.hid hm
  clear hm hW hG hO KP c6
  go_wp2_with fail
  first | go_end0 | refine bodyPost_ret (results_none rfl _ _ _) rfl ?_
  exact HM.out
end
end Go.Proofs.YtoencondpbkomaaGreatDoor

/-
  The decoder of LZMA2: a byte is read, a number of bytes.
-/
namespace Go.Proofs.YtoencondpbkomaaGreatDoor
open Go.RowKit

def srcV (f : Nat) (b : Bool) : Value := if b = true then .iface 52 (.pointer (some ⟨f, 0, none⟩)) else .nilIface
def pkV : Option Nat → Value
  | none => .pointer none
  | some p => .pointer (some ⟨p, 0, none⟩)
def d2Cells (g f : Nat) (s : Ds) : Array Value :=
  #[.pointer (some ⟨g, 0, none⟩), .bool s.closed, srcV f s.src, .bool s.ended, .int .u8 (s.nd : Int), .int .i64 s.a0, .int .i64 s.a1, .int .i64 s.a2, .int .i64 s.a3, .int .i64 (s.left : Int), pkV s.pk]

section
variable {w w' : World} {d g f lo : Nat} {s : Ds} {q : Lq} {bs : List UInt8}

set_option maxRecDepth 100000 in
set_option maxHeartbeats 1000000 in
theorem qbad_any (h : Blk w d 105 (d2Cells g f s)) :
    Calls Tryz.prog 73 #[.pointer (some ⟨d, 0, none⟩)] w fun e w' => e = .returned (.bool (!s.src)) ∧ w = w' := by
  have c2 : w.cell? ⟨d, 2, none⟩ = some (srcV f s.src) := h.cell 2
  clear h
  generalize s.src = b at *
  have q0 : ∀ w : World, (binOp .eql 101 .nilIface .nilIface).run Tryz.prog w = .ok (.bool true) w := fun _ => by kernel_rfl
  have q1 : ∀ w : World, (binOp .eql 101 (.iface 52 (.pointer (some ⟨f, 0, none⟩))) .nilIface).run Tryz.prog w = .ok (.bool false) w := fun _ => by kernel_rfl
  cases b
  · change w.cell? ⟨d, 2, none⟩ = some .nilIface at c2
    go_enter Tryz.func73, Tryz.ntmps73
    go_wp2_with fail
    go_ret
    exact ⟨rfl, rfl⟩
  · change w.cell? ⟨d, 2, none⟩ = some (.iface 52 (.pointer (some ⟨f, 0, none⟩))) at c2
    go_enter Tryz.func73, Tryz.ntmps73
    go_wp2_with fail
    go_ret
    exact ⟨rfl, rfl⟩

set_option maxRecDepth 100000 in
set_option maxHeartbeats 1000000 in
theorem qfail_any (h : Blk w d 105 (d2Cells g f s)) :
    Calls Tryz.prog 40 #[.pointer (some ⟨d, 0, none⟩)] w fun e w' => e = .returned (.tuple #[]) ∧ Blk w' d 105 (d2Cells g f s.fail) ∧ Only (fun i => i = d) w w' := by
  have c2 : w.cell? ⟨d, 2, none⟩ = some (srcV f s.src) := h.cell 2
  have c9 : w.cell? ⟨d, 9, none⟩ = some (.int .i64 (s.left : Int)) := h.cell 9
  have cp : w.cell? ⟨d, 10, none⟩ = some (pkV s.pk) := h.cell 10
  have z2 := h.free 2
  have z9 := h.free 9
  have zp := h.free 10
  have hO := (((Only.refl (fun i => i = d) w).setCell (p := ⟨d, 2, none⟩) (.inl rfl) .nilIface).setCell (p := ⟨d, 10, none⟩) (.inl rfl) (.pointer none)).setCell (p := ⟨d, 9, none⟩) (.inl rfl) (.int .i64 0)
  have hB := ((h.put 2 .nilIface).put 10 (.pointer none)).put 9 (.int .i64 0)
  have HE := Lib.hid (And.intro (show Blk _ d 105 (d2Cells g f s.fail) from hB) hO)
  clear h hB hO
  go_enter Tryz.func40, Tryz.ntmps40
  go_wp2_with fail
  first | go_end0 | refine bodyPost_ret (results_none rfl _ _ _) rfl ?_
  exact ⟨rfl, HE.out.1, HE.out.2⟩

/-- the decoder's fields, and what its source has left -/
structure Rdr (w : World) (d g f lo : Nat) (bs : List UInt8) (q : Lq) : Prop where
  blk : Blk w d 105 (d2Cells g f q.s)
  feed : q.s.src = true → ∃ at_, Feed w f lo bs at_ ∧ q.r = bs.drop at_
  df : d < lo
  ff : lo ≤ f
  nd : q.s.nd < 256
theorem Rdr.only {S : Nat → Prop} (h : Rdr w d g f lo bs q) (hO : Only S w w') (h1 : ¬ S d) (h2 : ∀ i, S i → i < lo ∨ f < i) : Rdr w' d g f lo bs q :=
  ⟨h.blk.only hO h1, fun hs => by obtain ⟨a, hF, hr⟩ := h.feed hs; exact ⟨a, hF.only hO h2, hr⟩, h.df, h.ff, h.nd⟩
def RdrPost (w : World) (d g f lo : Nat) (bs : List UInt8) (v : Value) (q : Lq) (e : Ending) (w' : World) : Prop :=
  e = .returned v ∧ Rdr w' d g f lo bs q ∧ Only (fun i => i = d ∨ i = f) w w'
/-- a field is stored -/
theorem Rdr.put {q' : Lq} (h : Rdr w d g f lo bs q) (k : Nat) (v : Value) (hc : (d2Cells g f q.s).setIfInBounds k v = d2Cells g f q'.s) (hs : q'.s.src = q.s.src) (hr : q'.r = q.r) (hn : q'.s.nd = q.s.nd ∨ q'.s.nd ≤ 7 := by exact .inl rfl) : Rdr (w.setCell ⟨d, k, none⟩ v) d g f lo bs q' := by
  refine ⟨(by have := h.blk.put k v; rw [hc] at this; exact this), fun h1 => ?_, h.df, h.ff, by have := h.nd; omega⟩
  obtain ⟨a, hF, e⟩ := h.feed (hs ▸ h1)
  exact ⟨a, hF.only ((Only.refl (fun i => i = d) w).setCell (p := ⟨d, k, none⟩) (.inl rfl) v) (fun i hi => .inl (by have := h.df; omega)), hr.trans e⟩

theorem rdr_failed (h : Rdr w d g f lo bs q) (hB : Blk w' d 105 (d2Cells g f q.s.fail)) : Rdr w' d g f lo bs q.fail :=
  ⟨hB, (fun hs => by cases hs), h.df, h.ff, h.nd⟩

set_option maxRecDepth 100000 in
set_option maxHeartbeats 1000000 in
/-- a byte is read -/
theorem qread_any (h : Rdr w d g f lo bs q) :
    Calls Tryz.prog 72 #[.pointer (some ⟨d, 0, none⟩)] w (RdrPost w d g f lo bs (.int .u8 (q.b.toNat : Int)) q.rd) := by
  have KB := Lib.hid (qbad_any h.blk)
  cases hs : q.s.src with
  | false =>
    rw [rd_none hs, b_none hs]
    rw [hs] at KB
    have HH := Lib.hid h
    clear h hs
    go_enter Tryz.func72, Tryz.ntmps72
    go_wp2_with fail
    refine KB.out.mono ?_
    rintro e w1 ⟨rfl, rfl⟩
    clear KB
    go_wp2_with fail
    go_ret
    exact ⟨rfl, HH.out, Only.refl _ _⟩
  | true =>
    rw [hs] at KB
    have c2 : w.cell? ⟨d, 2, none⟩ = some (srcV f q.s.src) := h.blk.cell 2
    rw [hs] at c2
    change w.cell? ⟨d, 2, none⟩ = some (.iface 52 (.pointer (some ⟨f, 0, none⟩))) at c2
    obtain ⟨at_, hF, hr⟩ := h.feed hs
    have hm := feed_method
    have hdf : d < f := Nat.lt_of_lt_of_le h.df h.ff
    by_cases hlt : at_ < bs.length
    · have hd : bs.drop at_ = bs[at_] :: bs.drop (at_ + 1) := List.drop_eq_getElem_cons hlt
      have hx : bs.getD at_ 0 = bs[at_] := by simp [List.getD, hlt]
      have KN := feed_more hF hlt
      rw [hx] at KN
      rw [rd_more hs (hr.trans hd), b_more hs (hr.trans hd)]
      have KN := Lib.hid KN
      have HH := Lib.hid (And.intro h hdf)
      clear h hs hF hr hd hx hdf
      generalize bs[at_] = x at *
      go_enter Tryz.func72, Tryz.ntmps72
      go_wp2_with fail
      refine KB.out.mono ?_
      rintro e w1 ⟨rfl, rfl⟩
      clear KB
      go_wp2_with fail
      refine KN.out.mono ?_
      rintro e w1 ⟨rfl, hF1, hg1⟩
      have HF1 := Lib.hid (And.intro hF1 hg1)
      clear hF1 hg1 KN c2
      go_wp2_with fail
      go_ret
      obtain ⟨h, hdf⟩ := HH.out
      obtain ⟨hF1, hg1⟩ := HF1.out
      refine ⟨rfl, ⟨h.blk.grown hg1 (fun e => by injection e with e; omega), fun _ => ⟨_, hF1, rfl⟩, h.df, h.ff, h.nd⟩, (Only.of_grown (S := fun i => i = f) hg1 rfl).mono fun i hi => .inr hi⟩
    · have := hF.le
      obtain rfl : at_ = bs.length := by omega
      have hn : q.r = [] := by rw [hr]; simp
      rw [rd_fail hs hn, b_end hs hn]
      have KN := Lib.hid (feed_end hF)
      have HH := Lib.hid h
      clear h hs hF hr hn hdf this hlt
      go_enter Tryz.func72, Tryz.ntmps72
      go_wp2_with fail
      refine KB.out.mono ?_
      rintro e w1 ⟨rfl, rfl⟩
      clear KB
      go_wp2_with fail
      refine KN.out.mono ?_
      rintro e w1 ⟨rfl, n, rfl⟩
      have KF := Lib.hid (qfail_any (HH.out.blk.drewN n))
      clear KN c2
      go_wp2_with fail
      refine KF.out.mono ?_
      rintro e w2 ⟨rfl, hB, hO⟩
      have HE := Lib.hid (And.intro hB (Only.of_drewN hO))
      clear hB hO KF
      go_wp2_with fail
      go_ret
      exact ⟨rfl, rdr_failed HH.out HE.out.1, HE.out.2.mono fun i hi => .inl hi⟩

set_option maxRecDepth 100000 in
set_option maxHeartbeats 1000000 in
/-- a number of bytes is read -/
theorem qcount_any (h : Rdr w d g f lo bs q) :
    Calls Tryz.prog 100 #[.pointer (some ⟨d, 0, none⟩)] w (RdrPost w d g f lo bs (.int .i64 (q.count : Int)) q.two) := by
  have KR := Lib.hid (qread_any h)
  have h0 := q.b.toNat_lt
  have h1 := q.rd.b.toNat_lt
  have hc : (q.count : Int) = (q.b.toNat : Int) * 256 + (q.rd.b.toNat : Int) + 1 := by unfold Lq.count; omega
  rw [hc]
  clear h hc
  have HB := Lib.hid (And.intro h0 h1)
  go_enter Tryz.func100, Tryz.ntmps100
  go_wp2_with fail
  refine KR.out.mono ?_
  rintro e w1 ⟨rfl, hR1, hO1⟩
  have KR2 := Lib.hid (qread_any hR1)
  have HO1 := Lib.hid hO1
  have e0 : IntKind.i64.wrap (q.b.toNat : Int) = (q.b.toNat : Int) := IntWalk.i64_in _ (by omega)
  have e1 : IntKind.i64.wrap ((q.b.toNat : Int) * 256) = (q.b.toNat : Int) * 256 := IntWalk.i64_in _ (by omega)
  have e2 : IntKind.i64.wrap (q.rd.b.toNat : Int) = (q.rd.b.toNat : Int) := IntWalk.i64_in _ (by omega)
  have e3 : IntKind.i64.wrap ((q.b.toNat : Int) * 256 + (q.rd.b.toNat : Int)) = (q.b.toNat : Int) * 256 + (q.rd.b.toNat : Int) := IntWalk.i64_in _ (by omega)
  have e4 : IntKind.i64.wrap ((q.b.toNat : Int) * 256 + (q.rd.b.toNat : Int) + 1) = (q.b.toNat : Int) * 256 + (q.rd.b.toNat : Int) + 1 := IntWalk.i64_in _ (by omega)
  generalize q.b.toNat = x at *
  generalize q.rd.b.toNat = y at *
  clear hR1 hO1 KR h0 h1
  go_wp2_with fail
  refine KR2.out.mono ?_
  rintro e w2 ⟨rfl, hR2, hO2⟩
  have HE := Lib.hid (And.intro hR2 (HO1.out.trans hO2))
  clear hR2 hO2 KR2
  go_wp2_with fail
  go_ret
  exact ⟨rfl, HE.out.1, HE.out.2⟩
end
end Go.Proofs.YtoencondpbkomaaGreatDoor

/-
  A decoder's numbers anew; what was told stays.
-/
namespace Go.Proofs.YtoencondpbkomaaGreatDoor
/-- its numbers anew; what was told stays -/
def Lzs.anew (z : Lzs) (lc lp pb : Nat) : Lzs := { z with lc := lc, lp := lp, pb := pb, st := 0, r0 := 0, r1 := 0, r2 := 0, r3 := 0 }
end Go.Proofs.YtoencondpbkomaaGreatDoor

/-
  The program's decoder of LZMA: a length.
-/
namespace Go.Proofs.YtoencondpbkomaaGreatDoor
open Go.RowKit

def LenPost (K : Kon) (w : World) (Gw : Nat → Prop) (z : Lzs) (r : Nat × Pm Dc) (left : Nat) (e : Ending) (w' : World) : Prop :=
  ∃ v : Nat, MidPost K w Gw (.int .i64 (v : Int)) z r.2 left e w' ∧ v < 272 ∧ (r.2.x ≠ none → v = r.1)
theorem alive_le {t : Pm Dc} {u n : Nat} (h : u < n) : Alive t 0 u < n := by unfold Alive; split <;> omega
theorem alive_is {t : Pm Dc} {u : Nat} (h : t.x ≠ none) : Alive t 0 u = u := by unfold Alive; rw [if_neg h]

section
variable {K : Kon} {w w' : World} {Gw : Nat → Prop} {z : Lzs} {t : Pm Dc} {left : Nat}

set_option maxRecDepth 100000 in
set_option maxHeartbeats 4000000 in
theorem llen_any {A o s : Nat} {v : Int} (h : Lw K w Gw z t left) (hp : z.pb ≤ 4) (ho : z.out.length ≤ 1000000) (hA : 688 ≤ A) (hA2 : A + 514 ≤ 1847) (hoA : o = 15 + (A - 256)) (hs : s = z.out.length % 2 ^ z.pb) :
    Calls Tryz.prog 181 #[.pointer (some ⟨K.g, 0, none⟩), .pointer (some ⟨K.g, o, none⟩)] w (LenPost K w Gw z (lenP decM t A s v) left) := by
  have hs15 : s ≤ 15 := by rw [hs]; exact mod_pb hp
  have KP := lplace_mid h hp ho
  rw [← hs] at KP
  have KP := Lib.hid KP
  have hb1 := bitP_ok decM_ok (k := 0) (a := A) (w := min (v.tdiv 8) 1) (okD_any h.mch.ok) (by omega) (fun h => by cases h)
  have hdef : lenP decM t A s v = lenA decM (bitP decM t A (min (v.tdiv 8) 1)) A s v := rfl
  rw [hdef]
  have KB := Lib.hid (fun (w1 : World) (h1 : Lw K w1 Gw z t left) => (h1.drewN 1).bit (a := A) (b := K.g) (i := o) (min (v.tdiv 8) 1) (Kon.ad_rest (by omega) (by omega) hoA) (by omega))
  obtain ⟨B, hB⟩ : ∃ B, B = bitP decM t A (min (v.tdiv 8) 1) := ⟨_, rfl⟩
  rw [← hB] at KB hb1 ⊢
  have j1 : (s : Int) < 16 := by omega
  have j0 : (0 : Int) ≤ (s : Int) := by omega
  by_cases hu : B.1 = 0
  · have KT := Lib.hid (fun (w1 : World) (h1 : Lw K w1 Gw z B.2 left) => (h1.drewN 1).tree (a := A + 2 + 8 * s) (n := 3) (b := K.g) (o := o + 2 + s * 8) (len := 8) (cap := 8) v (fun m hm => Kon.ad_rest (by omega) (by have : m < 8 := hm; omega) (by omega)) (by show A + 2 + 8 * s + 8 ≤ _; omega) (by decide) (by decide))
    have hlt := (treeP_ok decM_ok (k := 0) (a := A + 2 + 8 * s) (n := 3) (v := v) (okD_any hb1.2) (by show A + 2 + 8 * s + 8 ≤ _; omega) (fun h => by cases h)).1
    have hres : lenA decM B A s v = treeP decM B.2 (A + 2 + 8 * s) 3 v := by unfold lenA; rw [if_pos hu]
    rw [hres]
    obtain ⟨T, hT⟩ : ∃ T, T = treeP decM B.2 (A + 2 + 8 * s) 3 v := ⟨_, rfl⟩
    rw [← hT] at KT hlt ⊢
    have hu2 : ((B.1 : Int) == 0) = true := by simp [hu]
    have hlt : T.1 < 8 := hlt
    have HX := Lib.hid hlt
    clear h hs hB hT hu hres hdef hb1 hA hA2 hoA hs15 hp ho hlt
    go_enter Tryz.func181, Tryz.ntmps181
    go_wp2_with fail
    refine KP.out.mono ?_
    rintro e w1 ⟨rfl, hz1, ho1⟩
    have HO1 := Lib.hid ho1
    have c5 := hz1.f.c5
    have KB := Lib.hid (KB.out w1 hz1)
    clear KP hz1 ho1
    go_wp2_with fail
    go_still_tail 7, (by kernel_rfl)
    change wpList _ _ _ _ _ w1.drew
    go_wp2_with fail
    refine KB.out.mono ?_
    rintro e w2 ⟨rfl, hz2, ho2⟩
    have HO2 := Lib.hid (HO1.out.trans (Only.of_drewN ho2))
    have e5 := hz2.f.c5
    have KC := Lib.hid (KT.out w2 hz2)
    clear hz2 ho2 KB KT c5
    go_wp2_with fail
    go_still_tail 10, (by kernel_rfl)
    change wpList _ _ _ _ _ w2.drew
    go_wp2_with fail
    refine KC.out.mono ?_
    rintro e w3 ⟨rfl, hz3, ho3⟩
    have HZ3 := Lib.hid hz3
    have HO3 := Lib.hid (HO2.out.trans (Only.of_drewN ho3))
    clear hz3 ho3 KC
    go_wp2_with fail
    go_ret
    exact ⟨Alive T.2 0 T.1, ⟨rfl, HZ3.out, HO3.out⟩, by have := alive_le (t := T.2) HX.out; omega, fun hx => alive_is hx⟩
  · have hu2 : ((B.1 : Int) == 0) = false := by simp; omega
    have KB2 := Lib.hid (fun (w1 : World) (h1 : Lw K w1 Gw z B.2 left) => (h1.drewN 1).bit (a := A + 1) (b := K.g) (i := o + 1) (min (v.tdiv 16) 1) (Kon.ad_rest (by omega) (by omega) (by omega)) (by omega))
    have hb2 := bitP_ok decM_ok (k := 0) (a := A + 1) (w := min (v.tdiv 16) 1) (okD_any hb1.2) (by omega) (fun h => by cases h)
    have hres : lenA decM B A s v = lenB decM (bitP decM B.2 (A + 1) (min (v.tdiv 16) 1)) A s v := by unfold lenA; rw [if_neg hu]
    rw [hres]
    obtain ⟨B2, hB2⟩ : ∃ B2, B2 = bitP decM B.2 (A + 1) (min (v.tdiv 16) 1) := ⟨_, rfl⟩
    rw [← hB2] at KB2 hb2 ⊢
    by_cases hv : B2.1 = 0
    · have KT := Lib.hid (fun (w1 : World) (h1 : Lw K w1 Gw z B2.2 left) => (h1.drewN 1).tree (a := A + 130 + 8 * s) (n := 3) (b := K.g) (o := o + 130 + s * 8) (len := 8) (cap := 8) (v - 8) (fun m hm => Kon.ad_rest (by omega) (by have : m < 8 := hm; omega) (by omega)) (by show A + 130 + 8 * s + 8 ≤ _; omega) (by decide) (by decide))
      have hlt := (treeP_ok decM_ok (k := 0) (a := A + 130 + 8 * s) (n := 3) (v := v - 8) (okD_any hb2.2) (by show A + 130 + 8 * s + 8 ≤ _; omega) (fun h => by cases h)).1
      have hres2 : lenB decM B2 A s v = (8 + (treeP decM B2.2 (A + 130 + 8 * s) 3 (v - 8)).1, (treeP decM B2.2 (A + 130 + 8 * s) 3 (v - 8)).2) := by unfold lenB; rw [if_pos hv]
      rw [hres2]
      obtain ⟨T, hT⟩ : ∃ T, T = treeP decM B2.2 (A + 130 + 8 * s) 3 (v - 8) := ⟨_, rfl⟩
      rw [← hT] at KT hlt ⊢
      have hv2 : ((B2.1 : Int) == 0) = true := by simp [hv]
      have hlt : T.1 < 8 := hlt
      obtain ⟨x, hx⟩ : ∃ x, x = Alive T.2 0 T.1 := ⟨_, rfl⟩
      have hx8 : x < 8 := by rw [hx]; exact alive_le hlt
      have e7 : IntKind.i64.wrap (8 + (x : Int)) = ((8 + x : Nat) : Int) := by rw [show 8 + (x : Int) = ((8 + x : Nat) : Int) by omega]; exact IntWalk.i64_in _ (by omega)
      unfold TreePost at KT
      rw [← hx] at KT
      have HX := Lib.hid (And.intro hx hx8)
      clear h hs hB hB2 hT hu hv hres hres2 hdef hb1 hb2 hA hA2 hoA hs15 hp ho hlt hx hx8
      go_enter Tryz.func181, Tryz.ntmps181
      go_wp2_with fail
      refine KP.out.mono ?_
      rintro e w1 ⟨rfl, hz1, ho1⟩
      have HO1 := Lib.hid ho1
      have c5 := hz1.f.c5
      have KB := Lib.hid (KB.out w1 hz1)
      clear KP hz1 ho1
      go_wp2_with fail
      go_still_tail 7, (by kernel_rfl)
      change wpList _ _ _ _ _ w1.drew
      go_wp2_with fail
      refine KB.out.mono ?_
      rintro e w2 ⟨rfl, hz2, ho2⟩
      have HO2 := Lib.hid (HO1.out.trans (Only.of_drewN ho2))
      have e5 := hz2.f.c5
      have KC := Lib.hid (KB2.out w2 hz2)
      clear hz2 ho2 KB KB2 c5
      go_wp2_with fail
      go_still_tail 7, (by kernel_rfl)
      change wpList _ _ _ _ _ w2.drew
      go_wp2_with fail
      refine KC.out.mono ?_
      rintro e w3 ⟨rfl, hz3, ho3⟩
      have HO3 := Lib.hid (HO2.out.trans (Only.of_drewN ho3))
      have f5 := hz3.f.c5
      have KD := Lib.hid (KT.out w3 hz3)
      clear hz3 ho3 KC KT HO2 e5
      go_wp2_with fail
      go_still_tail 10, (by kernel_rfl)
      change wpList _ _ _ _ _ w3.drew
      go_wp2_with fail
      refine KD.out.mono ?_
      rintro e w4 ⟨rfl, hz4, ho4⟩
      have HZ4 := Lib.hid hz4
      have HO4 := Lib.hid (HO3.out.trans (Only.of_drewN ho4))
      clear hz4 ho4 KD
      go_wp2_with fail
      go_ret
      exact ⟨8 + x, ⟨rfl, HZ4.out, HO4.out⟩, by have := HX.out; omega, fun hn => by have := HX.out.1; rw [alive_is hn] at this; dsimp only; omega⟩
    · have KT := Lib.hid (fun (w1 : World) (h1 : Lw K w1 Gw z B2.2 left) => (h1.drewN 1).tree (a := A + 258) (n := 8) (b := K.g) (o := o + 258) (len := 256) (cap := 256) (v - 16) (fun m hm => Kon.ad_rest (by omega) (by have : m < 256 := hm; omega) (by omega)) (by show A + 258 + 256 ≤ _; omega) (by decide) (by decide))
      have hlt := (treeP_ok decM_ok (k := 0) (a := A + 258) (n := 8) (v := v - 16) (okD_any hb2.2) (by show A + 258 + 256 ≤ _; omega) (fun h => by cases h)).1
      have hres2 : lenB decM B2 A s v = (16 + (treeP decM B2.2 (A + 258) 8 (v - 16)).1, (treeP decM B2.2 (A + 258) 8 (v - 16)).2) := by unfold lenB; rw [if_neg hv]
      rw [hres2]
      obtain ⟨T, hT⟩ : ∃ T, T = treeP decM B2.2 (A + 258) 8 (v - 16) := ⟨_, rfl⟩
      rw [← hT] at KT hlt ⊢
      have hv2 : ((B2.1 : Int) == 0) = false := by simp; omega
      have hlt : T.1 < 256 := hlt
      obtain ⟨x, hx⟩ : ∃ x, x = Alive T.2 0 T.1 := ⟨_, rfl⟩
      have hx8 : x < 256 := by rw [hx]; exact alive_le hlt
      have e7 : IntKind.i64.wrap (16 + (x : Int)) = ((16 + x : Nat) : Int) := by rw [show 16 + (x : Int) = ((16 + x : Nat) : Int) by omega]; exact IntWalk.i64_in _ (by omega)
      unfold TreePost at KT
      rw [← hx] at KT
      have HX := Lib.hid (And.intro hx hx8)
      clear h hs hB hB2 hT hu hv hres hres2 hdef hb1 hb2 hA hA2 hoA hs15 hp ho hlt hx hx8
      go_enter Tryz.func181, Tryz.ntmps181
      go_wp2_with fail
      refine KP.out.mono ?_
      rintro e w1 ⟨rfl, hz1, ho1⟩
      have HO1 := Lib.hid ho1
      have c5 := hz1.f.c5
      have KB := Lib.hid (KB.out w1 hz1)
      clear KP hz1 ho1
      go_wp2_with fail
      go_still_tail 7, (by kernel_rfl)
      change wpList _ _ _ _ _ w1.drew
      go_wp2_with fail
      refine KB.out.mono ?_
      rintro e w2 ⟨rfl, hz2, ho2⟩
      have HO2 := Lib.hid (HO1.out.trans (Only.of_drewN ho2))
      have e5 := hz2.f.c5
      have KC := Lib.hid (KB2.out w2 hz2)
      clear hz2 ho2 KB KB2 c5
      go_wp2_with fail
      go_still_tail 7, (by kernel_rfl)
      change wpList _ _ _ _ _ w2.drew
      go_wp2_with fail
      refine KC.out.mono ?_
      rintro e w3 ⟨rfl, hz3, ho3⟩
      have HO3 := Lib.hid (HO2.out.trans (Only.of_drewN ho3))
      have f5 := hz3.f.c5
      have KD := Lib.hid (KT.out w3 hz3)
      clear hz3 ho3 KC KT HO2 e5
      go_wp2_with fail
      go_still_tail 8, (by kernel_rfl)
      change wpList _ _ _ _ _ w3.drew
      go_wp2_with fail
      refine KD.out.mono ?_
      rintro e w4 ⟨rfl, hz4, ho4⟩
      have HZ4 := Lib.hid hz4
      have HO4 := Lib.hid (HO3.out.trans (Only.of_drewN ho4))
      clear hz4 ho4 KD
      go_wp2_with fail
      go_ret
      exact ⟨16 + x, ⟨rfl, HZ4.out, HO4.out⟩, by have := HX.out; omega, fun hn => by have := HX.out.1; rw [alive_is hn] at this; dsimp only; omega⟩
end
end Go.Proofs.YtoencondpbkomaaGreatDoor
