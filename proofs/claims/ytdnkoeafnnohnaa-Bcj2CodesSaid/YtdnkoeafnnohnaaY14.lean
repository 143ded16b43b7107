/-
  B2Awk, RcRefN, RcRefsN: put together.
-/
import Derived.Test.YtdnkoeafnnohnaaY03
import Derived.Test.YtdnkoeafnnohnaaY12
import Derived.Test.YtdnkoeafnnohnaaY13
import Derived.Test.YtdnkoeafnnohnaaY02
import Derived.Test.YtdnkoeafnnohnaaY04
import Derived.Deep.RegionLaw
import Derived.LoopN
set_option linter.unusedVariables false
set_option linter.unusedSimpArgs false
/-
  The beginning of the laws of stage 15.
-/
namespace Go.Proofs.Ytdnkoeafnnohnaa
set_option linter.unusedVariables false
set_option linter.unusedSimpArgs false
open Go.RowKit

theorem b2code_holds {w : World} {A : Option Addr} {c : Nat} {b : List UInt8} (hS : Sl w A b.length (bv b)) (hc : b.length ≤ c) (hn : b.length ≤ 16384) :
    Calls Try.prog 13 #[.slice A b.length c] w (fun x w' => ∃ A' c' l, x = .returned (.agg (fourA A' c' l)) ∧ Below w.heap.size w w' ∧ FourOk w' A' c' l ∧ Holds b l) :=
  (b2code_any hS hc hn).mono fun x w' h => by
    obtain ⟨A', c', l, h1, h2, h3, h4⟩ := h
    exact ⟨A', c', l, h1, h2, h3, h4⟩
theorem b2dec_ans {w : World} {A : Nat → Option Addr} {c : Nat → Nat} {l : Nat → List UInt8} {size : Int} {ans : Option (List UInt8)} (hF : FourOk w A c l) (hsz : size < 9223372036854775808) (hans : ansD l size.toNat = ans) :
    Calls Try.prog 9 #[.agg (fourA A c l), .int .i64 size] w (RdPost w ans) :=
  b2decode_any hF hsz (by rw [← hans]; rfl)
theorem FourOk.below {w w' : World} {A : Nat → Option Addr} {c : Nat → Nat} {l : Nat → List UInt8} (h : FourOk w A c l) (hb : Below w.heap.size w w') : FourOk w' A c l :=
  ⟨fun i hi => (h.sl i hi).below hb, h.cap, h.len⟩
theorem lit5 (w : World) (a b c d f : UInt8) : Sl (w.alloc (.cells #[.int .u8 (a.toNat : Int), .int .u8 (b.toNat : Int), .int .u8 (c.toNat : Int), .int .u8 (d.toNat : Int), .int .u8 (f.toNat : Int)] 5)) (some ⟨w.heap.size, 0, none⟩) 5 (bv [a, b, c, d, f]) :=
  sl_lit w 5 #[.int .u8 (a.toNat : Int), .int .u8 (b.toNat : Int), .int .u8 (c.toNat : Int), .int .u8 (d.toNat : Int), .int .u8 (f.toNat : Int)] (by simp)
theorem lit4 (w : World) (a b c d : UInt8) : Sl (w.alloc (.cells #[.int .u8 (a.toNat : Int), .int .u8 (b.toNat : Int), .int .u8 (c.toNat : Int), .int .u8 (d.toNat : Int)] 5)) (some ⟨w.heap.size, 0, none⟩) 4 (bv [a, b, c, d]) :=
  sl_lit w 5 #[.int .u8 (a.toNat : Int), .int .u8 (b.toNat : Int), .int .u8 (c.toNat : Int), .int .u8 (d.toNat : Int)] (by simp)
theorem lit1 (w : World) (a : UInt8) : Sl (w.alloc (.cells #[.int .u8 (a.toNat : Int)] 5)) (some ⟨w.heap.size, 0, none⟩) 1 (bv [a]) :=
  sl_lit w 5 #[.int .u8 (a.toNat : Int)] (by simp)

theorem Sl.drewC {w : World} {A : Option Addr} {n : Nat} {xs : List Value} (h : Sl w A n xs) : Sl w.drew A n xs := h
theorem below_drewC {B : Nat} {a w : World} (h : Below B a w) : Below B a w.drew := ⟨h.os, h.tape, h.output, h.size, h.block⟩
theorem Blk.rest {w w' : World} {g : Nat} {t : TypeId} {cs : Array Value} (h : Blk w g t cs) (o : Obj) (n : Nat) (hw : ((w.alloc o).drew).drewN n = w') : Blk w' g t cs := by
  subst hw
  exact h.below (below_drewN (below_drewC ((Below.refl _ _).alloc (Nat.le_refl _) _)) n)
set_option maxRecDepth 100000 in
set_option maxHeartbeats 8000000 in
theorem awake15_any (w : World) : Calls Try.prog 8 #[] w fun e w' => e = .returned (.bool true) ∧ Below w.heap.size w w' := by
  have KC := Lib.hid (b2code_holds (b := [232, 251, 255, 255, 255]) (c := 5) (lit5 w 232 251 255 255 255) (by decide) (by decide))
  have HB0 := Lib.hid ((Below.refl w.heap.size w).alloc (Nat.le_refl _) (.cells #[.int .u8 232, .int .u8 251, .int .u8 255, .int .u8 255, .int .u8 255] 5))
  have hmk : ∀ W : World, (Instr.makeSlice 22 (.int .i64 4) (.int .i64 4)).run Try.prog W = .ok (.slice (some ⟨W.heap.size, 0, none⟩) 4 4) (W.alloc (.cells #[.int .u8 0, .int .u8 0, .int .u8 0, .int .u8 0] 5)) := fun _ => by kernel_rfl
  go_enter Try.func8, Try.ntmps8
  go_wp2_with fail
  refine KC.out.mono ?_
  rintro e w1 ⟨A', c', l, rfl, hb1, hF, hH⟩
  have HB1 := Lib.hid (HB0.out.trans (hb1.mono HB0.out.size))
  obtain ⟨a0, a1, a3⟩ := holds_awk hH
  have HN := Lib.hid (And.intro a0 (And.intro a1 a3))
  have HH := Lib.hid (And.intro hF hH)
  obtain ⟨v1, hv1⟩ : ∃ v1, v1 = w1.alloc (.cells (fourA A' c' l) 24) := ⟨_, rfl⟩
  have hbv : Below w1.heap.size w1 v1 := by rw [hv1]; exact (Below.refl _ _).alloc (Nat.le_refl _) _
  have hB1 : Blk v1 w1.heap.size 24 (fourA A' c' l) := by rw [hv1]; exact Blk.fresh _ _ _
  have hs1 : w1.heap.size < v1.heap.size := hB1.lt
  have HV := Lib.hid (And.intro hbv hB1)
  have x0 : v1.cell? ⟨w1.heap.size, 0, none⟩ = some (.slice (A' 0) (l 0).length (c' 0)) := hB1.cell 0
  have x1 : v1.cell? ⟨w1.heap.size, 1, none⟩ = some (.slice (A' 1) (l 1).length (c' 1)) := hB1.cell 1
  have x2 : v1.cell? ⟨w1.heap.size, 2, none⟩ = some (.slice (A' 2) (l 2).length (c' 2)) := hB1.cell 2
  have x3 : v1.cell? ⟨w1.heap.size, 3, none⟩ = some (.slice (A' 3) (l 3).length (c' 3)) := hB1.cell 3
  unfold fourA at hv1
  have HW := Lib.hid hv1
  have KD := Lib.hid (b2dec_ans (size := 5) (ans := some [232, 251, 255, 255, 255]) (hF.below hbv) (by decide) (holds_back hH (by decide)))
  unfold fourA at KD
  clear hb1 hF hH a0 a1 a3 HB0 KC hbv hB1 hv1
  unfold fourA
  go_upto_region 2 with fail
  rw [← HW.out]
  clear HW
  go_wp2_with fail
  refine KD.out.mono ?_
  rintro e w2 ⟨hb2, hh⟩
  rcases hh with ⟨hn, _⟩ | ⟨out, O, co, ho, rfl, hO⟩
  · cases hn
  injection ho with ho
  subst ho
  obtain ⟨a0, a1, a3⟩ := HN.out
  have hB2 := HV.out.2.below hb2
  have y0 : w2.cell? ⟨w1.heap.size, 0, none⟩ = some (.slice (A' 0) 1 (c' 0)) := (hB2.cell 0).trans (by show some (Value.slice (A' 0) (l 0).length (c' 0)) = _; rw [a0]; rfl)
  have y1 : w2.cell? ⟨w1.heap.size, 1, none⟩ = some (.slice (A' 1) 4 (c' 1)) := (hB2.cell 1).trans (by show some (Value.slice (A' 1) (l 1).length (c' 1)) = _; rw [a1]; rfl)
  have y3 : w2.cell? ⟨w1.heap.size, 3, none⟩ = some (.slice (A' 3) 5 (c' 3)) := (hB2.cell 3).trans (by show some (Value.slice (A' 3) (l 3).length (c' 3)) = _; rw [a3])
  have hF2 := (HH.out.1.below HV.out.1).below (hb2.mono (Nat.le_refl _))
  have s0 := hF2.sl 0 (by decide)
  have s1 := hF2.sl 1 (by decide)
  rw [a0] at s0
  rw [a1] at s1
  have hBel : Below w.heap.size w w2 := HB1.out.trans ((HV.out.1.trans (hb2.mono (Nat.le_of_lt hs1))).mono HB1.out.size)
  have HF := Lib.hid (And.intro hBel (Nat.lt_of_lt_of_le (Nat.lt_of_le_of_lt HB1.out.size hs1) hb2.size))
  have HY := Lib.hid (show ∀ W, Below w2.heap.size w2 W → W.cell? ⟨w1.heap.size, 0, none⟩ = some (.slice (A' 0) 1 (c' 0)) ∧ W.cell? ⟨w1.heap.size, 1, none⟩ = some (.slice (A' 1) 4 (c' 1)) ∧ W.cell? ⟨w1.heap.size, 3, none⟩ = some (.slice (A' 3) 5 (c' 3)) from fun W hW => by
    have h := hB2.below hW
    exact ⟨(h.cell 0).trans ((hB2.cell 0).symm.trans y0), (h.cell 1).trans ((hB2.cell 1).symm.trans y1), (h.cell 3).trans ((hB2.cell 3).symm.trans y3)⟩)
  have hBs := fun (W : World) (xs : List UInt8) (A B : Option Addr) (n ca cb : Nat) (hA : Sl w2 A n (bv xs)) (hW : Below w2.heap.size w2 W) (hB : Sl W B n (bv xs)) (hn : n ≤ 1000000000) =>
    (show Calls Try.prog 11 #[.slice A n ca, .slice B n cb] W (fun e w' => e = .returned (.bool true) ∧ Below w2.heap.size w2 w') from
      (bytesSame_any (hA.below hW) hB hn).mono fun e w' h => by
        obtain ⟨h1, d, rfl⟩ := h
        exact ⟨h1, below_drewN hW d⟩)
  have KB1 := Lib.hid (fun W B (hW : Below w2.heap.size w2 W) (hB : Sl W B 1 (bv [232])) => hBs W [232] (A' 0) B 1 (c' 0) 1 s0 hW hB (by decide))
  have KB2 := Lib.hid (fun W B (hW : Below w2.heap.size w2 W) (hB : Sl W B 4 (bv [0, 0, 0, 0])) => hBs W [0, 0, 0, 0] (A' 1) B 4 (c' 1) 4 s1 hW hB (by decide))
  have KB3 := Lib.hid (fun W B (hW : Below w2.heap.size w2 W) (hB : Sl W B 5 (bv [232, 251, 255, 255, 255])) => hBs W [232, 251, 255, 255, 255] O B 5 co 5 hO hW hB (by decide))
  have KL1 := Lib.hid (fun W => (show Sl (W.alloc (.cells #[.int .u8 232] 5)).drew (some ⟨W.heap.size, 0, none⟩) 1 (bv [232]) from (lit1 W 232).drewC))
  have KL2 := Lib.hid (fun W => (show Sl (W.alloc (.cells #[.int .u8 0, .int .u8 0, .int .u8 0, .int .u8 0] 5)) (some ⟨W.heap.size, 0, none⟩) 4 (bv [0, 0, 0, 0]) from lit4 W 0 0 0 0))
  have KL3 := Lib.hid (fun W => (show Sl (W.alloc (.cells #[.int .u8 232, .int .u8 251, .int .u8 255, .int .u8 255, .int .u8 255] 5)) (some ⟨W.heap.size, 0, none⟩) 5 (bv [232, 251, 255, 255, 255]) from lit5 W 232 251 255 255 255))
  have HB2 := Lib.hid (fun o => below_drewC ((Below.refl w2.heap.size w2).alloc (Nat.le_refl _) o))
  clear hBs
  clear hB2 hF2 s0 s1 hO a0 a1 a3 hBel KD x0 x1 x2 x3
  go_wp2_with fail
  go_region_held3 (fun W => W.cell? ⟨w1.heap.size, 0, none⟩ = some (.slice (A' 0) 1 (c' 0)) ∧ W.cell? ⟨w1.heap.size, 1, none⟩ = some (.slice (A' 1) 4 (c' 1)) ∧ W.cell? ⟨w1.heap.size, 3, none⟩ = some (.slice (A' 3) 5 (c' 3)))
    (first | assumption | go_keep | exact ⟨y0, y1, y3⟩ | exact z3 | exact z4 | exact z5 | trivial)
    (first
    | (go_at_call 11; refine (KB1.out _ _ (HB2.out _) (KL1.out _)).mono ?_; rintro e w3 ⟨rfl, hb3⟩; have z3 := HY.out w3 hb3; have HB3 := Lib.hid (fun o => hb3.alloc hb3.size o); have HBE := Lib.hid hb3; clear hb3 HB2 KB1 KL1)
    | (go_at_call 11; refine (KB2.out _ _ (HB3.out _) (KL2.out _)).mono ?_; rintro e w4 ⟨rfl, hb4⟩; have z4 := HY.out w4 hb4; have HB4 := Lib.hid (fun o => hb4.alloc hb4.size o); clear HBE; have HBE := Lib.hid hb4; clear hb4 HB3 KB2 KL2)
    | (go_at_call 11; refine (KB3.out _ _ (HB4.out _) (KL3.out _)).mono ?_; rintro e w5 ⟨rfl, hb5⟩; have z5 := HY.out w5 hb5; clear HBE; have HBE := Lib.hid hb5; clear hb5 HB4 KB3 KL3)
    | fail)
  go_wp2_with fail
  go_ret
  exact ⟨rfl, HF.out.1.trans (HBE.out.mono HF.out.1.size)⟩
end Go.Proofs.Ytdnkoeafnnohnaa

/-
  The reference's coder: each call a contract.
-/
namespace Go.Proofs.Ytdnkoeafnnohnaa
open Go.RowKit

def rnCells (q L c r : Nat) : Array Value := #[.slice (some ⟨q, 0, none⟩) L c, .int .u64 (r : Int)]

/-- Block g is the reference's coder, its bytes at block q; its state is e. -/
def Rn (w : World) (g q : Nat) (e : En) : Prop :=
  ∃ c bs, Blk w g 63 (rnCells q bs.length c e.r) ∧ Byt w q c bs ∧ be bs = e.n ∧ bs.length = e.l ∧ q ≠ g
theorem Rn.lt {w : World} {g q : Nat} {e : En} (h : Rn w g q e) : g < w.heap.size ∧ q < w.heap.size := by
  obtain ⟨c, bs, hB, hb, _⟩ := h
  exact ⟨hB.lt, hb.lt⟩
theorem Rn.only {S : Nat → Prop} {w w' : World} {g q : Nat} {e : En} (h : Rn w g q e) (hb : Only S w w') (hg : ¬ S g) (hq : ¬ S q) : Rn w' g q e := by
  obtain ⟨c, bs, hB, hy, r⟩ := h
  exact ⟨c, bs, hB.only hb hg, hy.only hb hq, r⟩
theorem Rn.drewN {w : World} {g q : Nat} {e : En} (h : Rn w g q e) (n : Nat) : Rn (w.drewN n) g q e := h

theorem add_step {cur : List UInt8} {k x y x' z P N : Nat} (hz : z = y % 256) (hx' : x' = y / 256) (hy : y = x + (cur.getD k 0).toNat) (hk : k < cur.length) (hP : P = 256 ^ (cur.length - 1 - k)) (h : be cur + x * P = N) :
    be (cur.set k (UInt8.ofNat z)) + x' * (P * 256) = N := by
  have hs := be_set cur k (UInt8.ofNat z) hk
  rw [← hP] at hs
  have ez : (UInt8.ofNat z).toNat = z := by simp; omega
  rw [ez] at hs
  have e1 : x' * (P * 256) = 256 * x' * P := by rw [Nat.mul_comm P, ← Nat.mul_assoc, Nat.mul_comm x']
  have e2 : (256 * x' + z) * P = (x + (cur.getD k 0).toNat) * P := by rw [← hy]; congr 1; omega
  rw [Nat.add_mul, Nat.add_mul] at e2
  omega

/-- What an addition leaves: behind a definition, so that no walk looks into it. -/
def RcAddPost (w : World) (g q c r N L : Nat) (e : Ending) (w' : World) : Prop :=
  e = .returned (.tuple #[]) ∧ ∃ cs, Blk w' g 63 (rnCells q L c r) ∧ Byt w' q c cs ∧ be cs = N ∧ cs.length = L ∧ Only (fun i => i = q) w w'

set_option maxHeartbeats 4000000 in
theorem add_any {w : World} {g q c r v N : Nat} {bs : List UInt8} (hB : Blk w g 63 (rnCells q bs.length c r)) (hY : Byt w q c bs) (hqg : q ≠ g) (hv : v < 4294967296) (hN : N = be bs + v) (hfit : N < 256 ^ bs.length) (hlen : bs.length ≤ 1000000000) :
    Calls Try.prog 45 #[.pointer (some ⟨g, 0, none⟩), .int .u64 (v : Int)] w (RcAddPost w g q c r N bs.length) := by
  generalize hL : bs.length = L at *
  have HB := Lib.hid hB
  have HY := Lib.hid hY
  have HN := Lib.hid hN
  have HF := Lib.hid hfit
  have HL := Lib.hid hL
  have c0 : w.cell? ⟨g, 0, none⟩ = some (.slice (some ⟨q, 0, none⟩) L c) := hB.cell 0
  have e0 : IntKind.i64.wrap ((L : Int) - 1) = (L : Int) - 1 := IntWalk.i64_in _ (by omega)
  clear hB hY hN hfit hL
  go_enter Try.func45, Try.ntmps45
  go_wp2_with fail
  go_loopw [1, 4] (fun vv i wr => ∃ (u x : Nat) (iv : Int) (cur : List UInt8), u ≤ L ∧ i = .int .i64 iv ∧ iv + 1 = (u : Int) ∧ vv = .int .u64 (x : Int) ∧ x < 4294967296 ∧ cur.length = L ∧ be cur + x * 256 ^ (L - u) = N ∧ Blk wr g 63 (rnCells q L c r) ∧ Byt wr q c cur ∧ Only (fun i => i = q) w wr) (fun _ i _ => (intOf i + 1).toNat)
  case atStart => exact ⟨L, v, _, bs, Nat.le_refl _, rfl, by omega, rfl, hv, HL.out, by rw [Nat.sub_self, Nat.pow_zero, Nat.mul_one, HN.out], HB.out, HY.out, Only.refl _ _⟩
  case round =>
    clear HB HY c0
    obtain ⟨u, x, iv, cur, hu, rfl, hiv, rfl, hx, hcl, hsum, hB, hY, hO⟩ := hrel
    have HBr := Lib.hid hB
    have HYr := Lib.hid hY
    have HOr := Lib.hid hO
    have HS := Lib.hid hsum
    have HCL := Lib.hid hcl
    have c0 : wr.cell? ⟨g, 0, none⟩ = some (.slice (some ⟨q, 0, none⟩) L c) := hB.cell 0
    by_cases hgo : 0 < u ∧ 0 < x
    · obtain ⟨k, rfl⟩ : ∃ k, u = k + 1 := ⟨u - 1, by omega⟩
      obtain rfl : iv = (k : Int) := by omega
      have hkl : k < cur.length := by omega
      have cx := hY.cell hkl
      have fx := hY.free k
      have hbl := (cur.getD k 0).toNat_lt
      obtain ⟨y, hy⟩ : ∃ y, y = x + (cur.getD k 0).toNat := ⟨_, rfl⟩
      obtain ⟨z, hz⟩ : ∃ z, z = y % 256 := ⟨_, rfl⟩
      obtain ⟨x', hx'⟩ : ∃ x', x' = y / 256 := ⟨_, rfl⟩
      have hstep := add_step (N := N) hz hx' hy hkl rfl (by rw [hcl, show L - 1 - k = L - (k + 1) by omega]; exact hsum)
      rw [hcl, ← Nat.pow_succ, show (L - 1 - k).succ = L - k by omega] at hstep
      have HST := Lib.hid hstep
      have e1 : IntKind.u64.wrap ((x : Int) + ((cur.getD k 0).toNat : Int)) = (y : Int) := by rw [← Int.natCast_add, ← hy]; exact u64_in _ (by omega)
      have e2 : IntKind.u64.wrap ((cur.getD k 0).toNat : Int) = ((cur.getD k 0).toNat : Int) := u64_in _ (by omega)
      have e3 : (y : Int).tmod 256 = (z : Int) := by rw [Int.tmod_eq_emod_of_nonneg (by omega)]; omega
      have e4 : IntKind.u8.wrap (z : Int) = (z : Int) := by simp [IntKind.wrap, IntKind.bits, IntKind.signed]; omega
      have e5 : (y : Int) / 256 = (x' : Int) := by omega
      have e7 : IntKind.u64.wrap (x' : Int) = (x' : Int) := u64_in _ (by omega)
      have e6 : IntKind.i64.wrap ((k : Int) - 1) = (k : Int) - 1 := IntWalk.i64_in _ (by omega)
      have HZU := Lib.hid (show ((UInt8.ofNat z).toNat : Int) = (z : Int) by have : (UInt8.ofNat z).toNat = z := by { simp; omega }; rw [this])
      have hx2 : x' < 4294967296 := by omega
      have i0 : (k : Int) ≥ 0 := by omega
      have i1 : (k : Int) < (L : Int) := by omega
      have i2 : (x : Int) > 0 := by omega
      have HX2 := Lib.hid hx2
      generalize (cur.getD k 0).toNat = bb at *
      clear hB hY hO hsum hstep hz hx' hy hbl hx2 hcl hkl hiv
      go_wp2_with fail
      go_roundw
      case rel =>
        have hY2 := HYr.out.put k (UInt8.ofNat z)
        rw [HZU.out] at hY2
        exact ⟨k, x', (k : Int) - 1, cur.set k (UInt8.ofNat z), by omega, rfl, by omega, rfl, HX2.out, by rw [List.length_set]; exact HCL.out, HST.out, HBr.out.far (fun e => hqg e.symm) _, hY2, HOr.out.setCell (p := ⟨q, k, none⟩) (.inl rfl) _⟩
      case measure => first | (simp [intOf]; done) | (simp [intOf]; omega)
    · have hx0 : x = 0 := by
        rcases Nat.eq_zero_or_pos x with h | h
        · exact h
        · have hu0 : u = 0 := by omega
          subst hu0
          have h1 := HF.out
          rw [← hsum, Nat.sub_zero] at h1
          have := Nat.mul_le_mul_right (256 ^ L) h
          omega
      subst hx0
      rw [Nat.zero_mul, Nat.add_zero] at hsum
      have HS2 := Lib.hid hsum
      clear hsum hB hY hO HS hgo hcl
      by_cases hu0 : 0 < u
      · have i0 : iv ≥ 0 := by omega
        go_wp2_with fail
        first | go_end0 | refine bodyPost_ret (results_none rfl _ _ _) rfl ?_
        exact ⟨rfl, cur, HBr.out, HYr.out, HS2.out, HCL.out, HOr.out⟩
      · have i0 : ¬ iv ≥ 0 := by omega
        go_wp2_with fail
        first | go_end0 | refine bodyPost_ret (results_none rfl _ _ _) rfl ?_
        exact ⟨rfl, cur, HBr.out, HYr.out, HS2.out, HCL.out, HOr.out⟩
end Go.Proofs.Ytdnkoeafnnohnaa

/-
  The reference's coder: evened out, made, a bit, a question.
-/
namespace Go.Proofs.Ytdnkoeafnnohnaa
open Go.RowKit

def twain (f g : Nat) : Nat → Prop := fun i => i = f ∨ i = g
theorem twain_l (f g : Nat) : twain f g f := .inl rfl
theorem twain_r (f g : Nat) : twain f g g := .inr rfl

/-- What a call of the reference's coder leaves. -/
def RnPost5 (w : World) (g q : Nat) (v : Value) (e' : En) (e : Ending) (w' : World) : Prop :=
  e = .returned v ∧ ∃ q', Rn w' g q' e' ∧ (q' = q ∨ w.heap.size ≤ q') ∧ Only (twain g q) w w'

section
variable {w : World} {g q c r : Nat} {bs : List UInt8}

set_option maxHeartbeats 1000000 in
theorem rlevel_high (hB : Blk w g 63 (rnCells q bs.length c r)) (hr : ¬ r < 16777216) :
    Calls Try.prog 44 #[.pointer (some ⟨g, 0, none⟩)] w fun e w' => e = .returned (.tuple #[]) ∧ w = w' := by
  have c1 : w.cell? ⟨g, 1, none⟩ = some (.int .u64 (r : Int)) := hB.cell 1
  have hr' : ¬ (r : Int) < 16777216 := by omega
  clear hB hr
  go_enter Try.func44, Try.ntmps44
  go_wp2_with fail
  go_loopw [] (fun wr => wr = w) (fun _ => 0)
  case atStart => rfl
  case round =>
    subst hrel
    have hr2 : ¬ (r : Int) < 16777216 := by omega
    go_wp2_with fail
    first | go_end0 | refine bodyPost_ret (results_none rfl _ _ _) rfl ?_
    exact ⟨rfl, rfl⟩

/-- the range has been multiplied, and a byte is behind -/
def LowDone (w wr : World) (g q : Nat) (bs : List UInt8) (R : Nat) : Prop :=
  ∃ q' c', Blk wr g 63 (rnCells q' (bs ++ [0]).length c' R) ∧ Byt wr q' c' (bs ++ [0]) ∧ q' ≠ g ∧ (q' = q ∨ w.heap.size ≤ q') ∧ Only (twain g q) w wr
open Classical in
/-- whether the range is still the one that was -/
noncomputable def lowLeft (wr : World) (g r : Nat) : Nat := if wr.cell? ⟨g, 1, none⟩ = some (.int .u64 (r : Int)) then 1 else 0

set_option maxHeartbeats 4000000 in
theorem rlevel_low (hB : Blk w g 63 (rnCells q bs.length c r)) (hY : Byt w q c bs) (hqg : q ≠ g) (hr : r < 16777216) (hr0 : 65536 ≤ r) (hlen : bs.length ≤ 1000000000) :
    Calls Try.prog 44 #[.pointer (some ⟨g, 0, none⟩)] w (RnPost5 w g q (.tuple #[]) ⟨be bs * 256, bs.length + 1, r * 256⟩) := by
  obtain ⟨i, hi, hz0, hz1, hz2⟩ := info_parts info_u8
  have c0 : w.cell? ⟨g, 0, none⟩ = some (.slice (some ⟨q, 0, none⟩) bs.length c) := hB.cell 0
  have c1 : w.cell? ⟨g, 1, none⟩ = some (.int .u64 (r : Int)) := hB.cell 1
  have f0 : w.frozen? ⟨g, 0, none⟩ = false := hB.free 0
  have f1 : w.frozen? ⟨g, 1, none⟩ = false := hB.free 1
  have hr' : (r : Int) < 16777216 := by omega
  have e1 : IntKind.u64.wrap ((r : Int) * 256) = ((r * 256 : Nat) : Int) := by rw [show (r : Int) * 256 = ((r * 256 : Nat) : Int) by omega]; exact u64_in _ (by omega)
  have hr2 : ¬ ((r * 256 : Nat) : Int) < 16777216 := by omega
  have HB := Lib.hid hB
  have HY := Lib.hid hY
  have hgl := hB.lt
  have hql := hY.lt
  have hrR : r ≠ r * 256 := by omega
  clear hB hY
  obtain ⟨R, hR⟩ : ∃ R, R = r * 256 := ⟨_, rfl⟩
  rw [← hR] at e1 hr2 hrR
  have HRR := Lib.hid hR
  have hR2 : ¬ R < 16777216 := by omega
  have HR2 := Lib.hid hR2
  have HRL := Lib.hid hr
  clear hR hR2 hr hr0 hr' hr2
  go_enter Try.func44, Try.ntmps44
  go_wp2_with fail
  go_loopw [] (fun wr => wr = w ∨ LowDone w wr g q bs R) (fun wr => lowLeft wr g r)
  case atStart => exact .inl rfl
  case round =>
    have HREL := Lib.hid hrel
    clear hrel
    rcases HREL.out with hw | hd
    · clear HREL
      obtain rfl : w = wr := hw.symm
      have hr' : (r : Int) < 16777216 := by have := HRL.out; omega
      have hO1 := (Only.refl (twain g q) w).setCell (p := ⟨g, 1, none⟩) (.inl (twain_l g q)) (.int .u64 (R : Int))
      have hY1 := HY.out.only ((Only.refl (fun j => j = g) w).setCell (p := ⟨g, 1, none⟩) (.inl rfl) (.int .u64 (R : Int))) hqg
      have hB1 := HB.out.put 1 (.int .u64 (R : Int))
      have hsz1 : (w.setCell ⟨g, 1, none⟩ (.int .u64 (R : Int))).heap.size = w.heap.size := by simp [World.setCell]
      have HO1 := Lib.hid hO1
      have HY1 := Lib.hid hY1
      have HB1 := Lib.hid hB1
      have d0 : (w.setCell ⟨g, 1, none⟩ (.int .u64 (R : Int))).cell? ⟨g, 0, none⟩ = some (.slice (some ⟨q, 0, none⟩) bs.length c) := hB1.cell 0
      have hnews : ∀ j u, [Value.int .u8 0][j]? = some u → ((w.setCell ⟨g, 1, none⟩ (.int .u64 (R : Int))).alloc (.cells #[.int .u8 0] 5)).cell? ((⟨w.heap.size, 0, none⟩ : Addr).add j) = some u := by rw [← hsz1]; exact (sl_one _ _ _).news
      have HNW := Lib.hid hnews
      have HSZ := Lib.hid hsz1
      clear hO1 hY1 hB1 hsz1 hnews
      go_wp2_with (at_builtin; refine wpList_append_lies _ rfl (.tmp 19) (.tmp 20) 22 rfl 0 5 i _ 1 1 Try.underlying22 hi hz0 hz1 hz2 rfl (by omega) _ bs.length (bv bs) rfl (HY1.out.own.alloc _) _ 1 1 [.int .u8 0] rfl rfl HNW.out (one_one _ _) (by omega) (by unfold maxLen; omega) (by omega) (Nat.zero_le _) _ rfl ?_)
      intro q' c' w3 ho hg hq hql3
      have hw2 : Only (twain g q) w ((w.setCell ⟨g, 1, none⟩ (.int .u64 (R : Int))).alloc (.cells #[.int .u8 0] 5)) := HO1.out.alloc _
      have h3 := hw2.trans (Only.of_grown hg (twain_r g q))
      have hgs : w.heap.size ≤ ((w.setCell ⟨g, 1, none⟩ (.int .u64 (R : Int))).alloc (.cells #[.int .u8 0] 5)).heap.size := hw2.size
      have hB3 := (HB1.out.alloc (.cells #[.int .u8 0] 5)).grown hg (by intro e; injection e with e; exact hqg e.symm)
      have hq2 : q' = q ∨ w.heap.size ≤ q' := by
        rcases hq with hq | hq
        · left; simp [Value.ownBlock] at hq; exact hq.symm
        · right; omega
      have hqg' : q' ≠ g := by rcases hq2 with h | h <;> omega
      have k0 : w3.cell? ⟨g, 0, none⟩ = some (.slice (some ⟨q, 0, none⟩) bs.length c) := hB3.cell 0
      have k1 : w3.cell? ⟨g, 1, none⟩ = some (.int .u64 (R : Int)) := hB3.cell 1
      have z0 : w3.frozen? ⟨g, 0, none⟩ = false := hB3.free 0
      have HO3 := Lib.hid h3
      have HB3 := Lib.hid hB3
      have HQ2 := Lib.hid hq2
      have hy3 : Byt w3 q' c' (bs ++ [0]) := by
        unfold Byt
        rw [bv_append, List.length_append]
        exact ho
      have HY3 := Lib.hid hy3
      clear ho hg hq hw2 h3 hB3 hq2 hy3 d0 f0 f1 c0 HO1 HY1 HB1 HSZ hgs
      go_wp2_with fail
      go_roundw
      case rel =>
        right
        refine ⟨q', c', ?_, HY3.out.only ((Only.refl (fun j => j = g) w3).setCell (p := ⟨g, 0, none⟩) (.inl rfl) _) hqg', hqg', HQ2.out, HO3.out.setCell (p := ⟨g, 0, none⟩) (.inl (twain_l g q)) _⟩
        have := HB3.out.put 0 (.slice (some ⟨q', 0, none⟩) (bs.length + 1) c')
        rw [List.length_append]
        exact this
      case measure =>
        have n1 : (w3.setCell ⟨g, 0, none⟩ (.slice (some ⟨q', 0, none⟩) (bs.length + 1) c')).cell? ⟨g, 1, none⟩ = some (.int .u64 (R : Int)) := (HB3.out.put 0 (.slice (some ⟨q', 0, none⟩) (bs.length + 1) c')).cell 1
        unfold lowLeft
        rw [if_neg (by rw [n1]; intro e; injection e with e; injection e with _ e; omega), if_pos c1]
        omega
    · clear HREL
      obtain ⟨q', c', hB3, hY3, hqg', hq2, hO3⟩ := hd
      have k1 : wr.cell? ⟨g, 1, none⟩ = some (.int .u64 (R : Int)) := hB3.cell 1
      have HB3 := Lib.hid hB3
      have HY3 := Lib.hid hY3
      have HQ2 := Lib.hid hq2
      have HO3 := Lib.hid hO3
      clear hB3 hY3 hq2 hO3 c0 c1 f0 f1
      have hr2 : ¬ (R : Int) < 16777216 := by have := HR2.out; omega
      go_wp2_with fail
      first | go_end0 | refine bodyPost_ret (results_none rfl _ _ _) rfl ?_
      rw [← HRR.out]
      exact ⟨rfl, q', ⟨c', bs ++ [0], HB3.out, HY3.out, by rw [be_snoc]; simp, by simp, hqg'⟩, HQ2.out, HO3.out⟩

theorem rlevel_any {e : En} (h : Rn w g q e) (hr0 : 65536 ≤ e.r) (hlen : e.l ≤ 1000000000) :
    Calls Try.prog 44 #[.pointer (some ⟨g, 0, none⟩)] w (RnPost5 w g q (.tuple #[]) e.even) := by
  obtain ⟨c, bs, hB, hY, hn, hl, hqg⟩ := h
  by_cases hr : e.r < 16777216
  · have := rlevel_low hB hY hqg hr hr0 (by omega)
    have he : e.even = ⟨be bs * 256, bs.length + 1, e.r * 256⟩ := by unfold En.even; rw [if_pos hr, hn, hl]
    rw [he]
    exact this
  · have he : e.even = e := by unfold En.even; rw [if_neg hr]
    rw [he]
    refine (rlevel_high hB hr).mono ?_
    rintro e' w' ⟨rfl, rfl⟩
    exact ⟨rfl, q, ⟨c, bs, hB, hY, hn, hl, hqg⟩, .inl rfl, Only.refl _ _⟩

set_option maxHeartbeats 2000000 in
theorem rnew5_any (w : World) : Calls Try.prog 27 #[] w fun e w' => e = .returned (.pointer (some ⟨w.heap.size + 1, 0, none⟩)) ∧ Rn w' (w.heap.size + 1) w.heap.size En.new ∧ Below w.heap.size w w' := by
  obtain ⟨i, hi, hz0, hz1, hz2⟩ := info_parts info_u8
  have hmk : ∀ w, (Instr.makeSlice 22 (.int .i64 5) (.int .i64 5)).run Try.prog w = .ok (.slice (some ⟨w.heap.size, 0, none⟩) 5 5) (w.alloc (.cells #[.int .u8 0, .int .u8 0, .int .u8 0, .int .u8 0, .int .u8 0] 5)) := fun _ => by kernel_rfl
  have hsz : (w.alloc (.cells #[.int .u8 0, .int .u8 0, .int .u8 0, .int .u8 0, .int .u8 0] 5)).heap.size = w.heap.size + 1 := by simp
  have HY := Lib.hid (show Byt (w.alloc (.cells #[.int .u8 0, .int .u8 0, .int .u8 0, .int .u8 0, .int .u8 0] 5)) w.heap.size 5 [0, 0, 0, 0, 0] from
    ⟨by simp [bv], .inr ⟨w.heap.size, 5, #[.int .u8 0, .int .u8 0, .int .u8 0, .int .u8 0, .int .u8 0], rfl, Nat.zero_le _, heap_alloc_new w _, by simp, by unfold maxLen; omega, by simp, by simp [bv]⟩⟩)
  have HSZ := Lib.hid hsz
  have HB := Lib.hid ((Below.refl w.heap.size w).alloc (Nat.le_refl _) (.cells #[.int .u8 0, .int .u8 0, .int .u8 0, .int .u8 0, .int .u8 0] 5))
  clear hsz
  go_enter Try.func27, Try.ntmps27
  go_wp2_with fail
  go_ret
  have hsz := HSZ.out
  generalize (w.alloc (.cells #[.int .u8 0, .int .u8 0, .int .u8 0, .int .u8 0, .int .u8 0] 5)) = w1 at *
  refine ⟨rfl, ⟨5, [0, 0, 0, 0, 0], ?_, HY.out.only ((Only.refl (fun _ => False) w1).alloc _) (fun h => h), rfl, rfl, by omega⟩, HB.out.alloc (by omega) _⟩
  have := Blk.fresh w1 63 (rnCells w.heap.size 5 5 4294967295)
  rw [hsz] at this
  exact this

theorem wrapU16 (x : Int) (h : 0 ≤ x ∧ x < 65536) : IntKind.u16.wrap x = x := by
  simp [IntKind.wrap, IntKind.bits, IntKind.signed]
  omega

set_option maxHeartbeats 4000000 in
theorem rbit5_zero {e : En} {p z : Nat} (hz : z = e.r / 2048 * p) (h : Rn w g q e) (he : EnOk e) (hp : POk p) (hlen : e.l ≤ 999999999) :
    Calls Try.prog 28 #[.pointer (some ⟨g, 0, none⟩), .int .u16 (p : Int), .int .i64 0] w (RnPost5 w g q (.int .u16 (up0 p : Int)) (En.even ⟨e.n, e.l, z⟩)) := by
  obtain ⟨b0, b1⟩ := bound_in he.1 he.2.1 hp
  have hr := he.2.1
  obtain ⟨p0, p1⟩ := hp
  obtain ⟨c, bs, hB, hY, hn, hl, hqg⟩ := h
  rw [← hz] at b0 b1
  have h1 : w.cell? ⟨g, 1, none⟩ = some (.int .u64 (e.r : Int)) := hB.cell 1
  have f1 : w.frozen? ⟨g, 1, none⟩ = false := hB.free 1
  have e0 : IntKind.u64.wrap (p : Int) = (p : Int) := u64_in _ (by omega)
  have e1 : IntKind.u64.wrap ((e.r : Int) / 2048 * (p : Int)) = (z : Int) := by
    rw [show (e.r : Int) / 2048 * (p : Int) = (z : Int) by rw [hz]; simp]
    exact u64_in _ (by omega)
  have e2 : IntKind.u16.wrap (2048 - (p : Int)) = 2048 - (p : Int) := wrapU16 _ (by omega)
  obtain ⟨u, hu⟩ : ∃ u, u = (2048 - p) / 32 := ⟨_, rfl⟩
  have e3 : IntKind.u16.wrap ((2048 - (p : Int)).tdiv 32) = (u : Int) := by
    rw [Int.tdiv_eq_ediv_of_nonneg (by omega), show (2048 - (p : Int)) / 32 = (u : Int) by omega]
    exact wrapU16 _ (by omega)
  have hup : up0 p = p + u := by unfold up0; omega
  have e5 : IntKind.u16.wrap ((p : Int) + (u : Int)) = ((p + u : Nat) : Int) := by rw [← Int.natCast_add]; exact wrapU16 _ (by omega)
  rw [hup]
  have hO := (Only.refl (fun i => i = g) w).setCell (p := ⟨g, 1, none⟩) (.inl rfl) (.int .u64 (z : Int))
  have K := Lib.hid (rlevel_any (e := ⟨e.n, e.l, z⟩) (⟨c, bs, hB.put 1 (.int .u64 (z : Int)), hY.only hO hqg, hn, hl, hqg⟩ : Rn (w.setCell ⟨g, 1, none⟩ (.int .u64 (z : Int))) g q ⟨e.n, e.l, z⟩) (by show 65536 ≤ z; omega) (by show e.l ≤ _; omega))
  have HO := Lib.hid hO
  clear hB hY hO hu hup hz he hn hl
  generalize p + u = pu at *
  go_enter Try.func28, Try.ntmps28
  go_wp2_with fail
  refine K.out.mono ?_
  rintro e' w1 ⟨rfl, q', hN, hq, hO1⟩
  have HN := Lib.hid hN
  have HQ := Lib.hid hq
  have HO1 := Lib.hid ((HO.out.mono (fun i hi => .inl hi) : Only (twain g q) w _).trans hO1)
  clear hN hq hO1 HO K
  go_wp2_with fail
  go_ret
  refine ⟨rfl, q', HN.out, ?_, HO1.out⟩
  rcases HQ.out with h | h
  · exact .inl h
  · right
    have hs : (w.setCell ⟨g, 1, none⟩ (.int .u64 (z : Int))).heap.size = w.heap.size := by simp [World.setCell]
    rw [hs] at h
    exact h

set_option maxHeartbeats 4000000 in
theorem rbit5_one {e : En} {p z : Nat} (hz : z = e.r / 2048 * p) (h : Rn w g q e) (he : EnOk e) (hp : POk p) (hlen : e.l ≤ 999999999) :
    Calls Try.prog 28 #[.pointer (some ⟨g, 0, none⟩), .int .u16 (p : Int), .int .i64 1] w (RnPost5 w g q (.int .u16 (up1 p : Int)) (En.even ⟨e.n + z, e.l, e.r - z⟩)) := by
  obtain ⟨b0, b1⟩ := bound_in he.1 he.2.1 hp
  have hr := he.2.1
  obtain ⟨p0, p1⟩ := hp
  obtain ⟨c, bs, hB, hY, hn, hl, hqg⟩ := h
  rw [← hz] at b0 b1
  have h1 : w.cell? ⟨g, 1, none⟩ = some (.int .u64 (e.r : Int)) := hB.cell 1
  have e0 : IntKind.u64.wrap (p : Int) = (p : Int) := u64_in _ (by omega)
  have e1 : IntKind.u64.wrap ((e.r : Int) / 2048 * (p : Int)) = (z : Int) := by
    rw [show (e.r : Int) / 2048 * (p : Int) = (z : Int) by rw [hz]; simp]
    exact u64_in _ (by omega)
  have hfit : e.n + z < 256 ^ bs.length := by rw [hl]; exact enIn_fits he.2.2 (by omega)
  have KA := Lib.hid (add_any (v := z) (N := e.n + z) hB hY hqg (by omega) (by rw [hn]) hfit (by omega))
  have e3 : IntKind.u64.wrap ((e.r : Int) - (z : Int)) = ((e.r - z : Nat) : Int) := by rw [show (e.r : Int) - (z : Int) = ((e.r - z : Nat) : Int) by omega]; exact u64_in _ (by omega)
  have hup : up1 p = p - p / 32 := rfl
  have e5 : IntKind.u16.wrap ((p : Int) - (p : Int) / 32) = ((p - p / 32 : Nat) : Int) := by rw [show (p : Int) - (p : Int) / 32 = ((p - p / 32 : Nat) : Int) by omega]; exact wrapU16 _ (by omega)
  have e6 : IntKind.u16.wrap ((p : Int) / 32) = (p : Int) / 32 := wrapU16 _ (by omega)
  rw [hup]
  have HL := Lib.hid hl
  have hr1 : 65536 ≤ e.r - z := by omega
  clear hB hY hup hz he hn hl hfit
  generalize p - p / 32 = pu at *
  generalize e.r - z = r1 at *
  go_enter Try.func28, Try.ntmps28
  go_wp2_with fail
  refine KA.out.mono ?_
  rintro e' w1 ⟨rfl, cs, hB1, hY1, hn1, hl1, hO1⟩
  have d1 : w1.cell? ⟨g, 1, none⟩ = some (.int .u64 (e.r : Int)) := hB1.cell 1
  have f1 : w1.frozen? ⟨g, 1, none⟩ = false := hB1.free 1
  have hO := (Only.refl (fun i => i = g) w1).setCell (p := ⟨g, 1, none⟩) (.inl rfl) (.int .u64 (r1 : Int))
  have hB2 := hB1.put 1 (.int .u64 (r1 : Int))
  rw [← hl1] at hB2
  have K := Lib.hid (rlevel_any (e := ⟨e.n + z, e.l, r1⟩) (⟨c, cs, hB2, hY1.only hO hqg, hn1, hl1.trans HL.out, hqg⟩ : Rn (w1.setCell ⟨g, 1, none⟩ (.int .u64 (r1 : Int))) g q ⟨e.n + z, e.l, r1⟩) hr1 (by show e.l ≤ _; omega))
  have hsz := hO1.size
  have hs : (w1.setCell ⟨g, 1, none⟩ (.int .u64 (r1 : Int))).heap.size = w1.heap.size := by simp [World.setCell]
  have HS := Lib.hid (show w.heap.size ≤ (w1.setCell ⟨g, 1, none⟩ (.int .u64 (r1 : Int))).heap.size by rw [hs]; exact hsz)
  have HO := Lib.hid ((hO1.mono (fun i hi => .inr hi) : Only (twain g q) w w1).trans (hO.mono (fun i hi => .inl hi)))
  clear hB1 hY1 hn1 hl1 hO1 hO hB2 hsz hs h1
  go_wp2_with fail
  refine K.out.mono ?_
  rintro e' w2 ⟨rfl, q', hN, hq, hO2⟩
  have HN := Lib.hid hN
  have HQ := Lib.hid hq
  have HO2 := Lib.hid (HO.out.trans hO2)
  clear hN hq hO2 HO K
  go_wp2_with fail
  go_ret
  refine ⟨rfl, q', HN.out, ?_, HO2.out⟩
  rcases HQ.out with h | h
  · exact .inl h
  · exact .inr (Nat.le_trans HS.out h)

theorem rbit5_any {e : En} {p b : Nat} (h : Rn w g q e) (he : EnOk e) (hp : POk p) (hb : b ≤ 1) (hlen : e.l ≤ 999999999) :
    Calls Try.prog 28 #[.pointer (some ⟨g, 0, none⟩), .int .u16 (p : Int), .int .i64 (b : Int)] w (RnPost5 w g q (.int .u16 (upOf p b : Int)) (e.bit p b)) := by
  unfold upOf En.bit
  by_cases hb0 : b = 0
  · subst hb0
    rw [if_pos rfl, if_pos rfl]
    exact rbit5_zero rfl h he hp hlen
  · obtain rfl : b = 1 := by omega
    rw [if_neg hb0, if_neg hb0]
    exact rbit5_one rfl h he hp hlen
end
end Go.Proofs.Ytdnkoeafnnohnaa
