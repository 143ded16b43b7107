/-
  RdRf, LzDec, LzDecS, RcRefN, RcRefsN, LzEnc, RcAskN, LzEncS, LzMore: put together.
-/
import Derived.Test.YtoencondpbkomaaGreatQ21
import Derived.Test.YtoencondpbkomaaGreatQ01
import Derived.Test.YtoencondpbkomaaGreatQ20
import Derived.Deep.RegionHeld3
import Derived.Test.YtoencondpbkomaaGreatQ02
import Derived.Deep.RegionLaw
import Derived.LoopN
import Derived.Test.YtoencondpbkomaaGreatQ07
set_option linter.unusedVariables false
set_option linter.unusedSimpArgs false
/-
  The reference's decoder, its state alone: a bit, and bits straight.
-/
namespace Go.Proofs.YtoencondpbkomaaGreat
open Go.RowKit

/-- Block g is the reference's decoder; its state is d. -/
def Rf (w : World) (g : Nat) (A : Option Addr) (c : Nat) (bs : List UInt8) (d : Dc) : Prop :=
  ∃ at_ r k bad, Blk w g 95 (decCells A bs.length c at_ r k bad) ∧ Tells bs d at_ r k bad
theorem Rf.lt {w : World} {g c : Nat} {A : Option Addr} {bs : List UInt8} {d : Dc} (h : Rf w g A c bs d) : g < w.heap.size := by
  obtain ⟨_, _, _, _, hB, _⟩ := h
  exact hB.lt
theorem Rf.only {S : Nat → Prop} {w w' : World} {g c : Nat} {A : Option Addr} {bs : List UInt8} {d : Dc} (h : Rf w g A c bs d) (hb : Only S w w') (hS : ¬ S g) : Rf w' g A c bs d := by
  obtain ⟨at_, r, k, bad, hB, ht⟩ := h
  exact ⟨at_, r, k, bad, hB.only hb hS, ht⟩

/-- What a number told straight leaves. -/
def RnPost (w : World) (g c : Nat) (A : Option Addr) (bs : List UInt8) (v : Nat) (d : Dc) (e : Ending) (w' : World) : Prop :=
  e = .returned (.int .u32 (v : Int)) ∧ Rf w' g A c bs d ∧ w.grownBy w' (some g)

section
variable {g c : Nat} {A : Option Addr} {w : World} {bs : List UInt8}

end
end Go.Proofs.YtoencondpbkomaaGreat

/-
  The reference of LZMA tells bits: its machine is the reference's decoder.
-/
namespace Go.Proofs.YtoencondpbkomaaGreat
open Go.RowKit

/-- the blocks that are read alone -/
def rowOf (A : Option Addr) (n : Nat) : Nat → Prop := fun i => 0 < n ∧ ∃ o, A = some ⟨i, o, none⟩
/-- the reference's decoder over the bytes bs, its state d -/
def Kd (A : Option Addr) (bs : List UInt8) (w : World) (Dv Ev : Value) (Gm : Nat → Prop) (d : Dc) : Prop :=
  ∃ db c, Dv = .pointer (some ⟨db, 0, none⟩) ∧ Ev = .pointer none ∧ (∀ i, Gm i ↔ i = db) ∧ Rf w db A c bs d ∧ Sl w A bs.length (bv bs) ∧ (0 < bs.length → ∀ q o, A = some ⟨q, o, none⟩ → q ≠ db) ∧ bs.length ≤ 1000000000

section
variable {w : World} {g : Nat} {G : Nat → Prop} {z : Lzs} {t : Pm Dc} {A : Option Addr} {bs : List UInt8}

end
end Go.Proofs.YtoencondpbkomaaGreat

/-
  The reference of LZMA tells bits straight, by the reference's decoder; what it owes.
-/
namespace Go.Proofs.YtoencondpbkomaaGreat
open Go.RowKit

section
variable {w : World} {g : Nat} {G : Nat → Prop} {z : Lzs} {t : Pm Dc} {A : Option Addr} {bs : List UInt8}
end
end Go.Proofs.YtoencondpbkomaaGreat

/-
  The reference's coder: each call a contract.
-/
namespace Go.Proofs.YtoencondpbkomaaGreat
open Go.RowKit

def rnCells (q L c r : Nat) : Array Value := #[.slice (some ⟨q, 0, none⟩) L c, .int .u64 (r : Int)]

/-- Block g is the reference's coder, its bytes at block q; its state is e. -/
def Rn (w : World) (g q : Nat) (e : En) : Prop :=
  ∃ c bs, Blk w g 102 (rnCells q bs.length c e.r) ∧ Byt w q c bs ∧ be bs = e.n ∧ bs.length = e.l ∧ q ≠ g
theorem Rn.lt {w : World} {g q : Nat} {e : En} (h : Rn w g q e) : g < w.heap.size ∧ q < w.heap.size := by
  obtain ⟨c, bs, hB, hb, _⟩ := h
  exact ⟨hB.lt, hb.lt⟩
theorem Rn.only {S : Nat → Prop} {w w' : World} {g q : Nat} {e : En} (h : Rn w g q e) (hb : Only S w w') (hg : ¬ S g) (hq : ¬ S q) : Rn w' g q e := by
  obtain ⟨c, bs, hB, hy, r⟩ := h
  exact ⟨c, bs, hB.only hb hg, hy.only hb hq, r⟩
theorem Rn.drewN {w : World} {g q : Nat} {e : En} (h : Rn w g q e) (n : Nat) : Rn (w.drewN n) g q e := h

theorem add_step {cur : List UInt8} {k x y x' z P N : Nat} (hz : z = y % 256) (hx' : x' = y / 256) (hy : y = x + (cur.getD k 0).toNat) (hk : k < cur.length) (hP : P = 256 ^ (cur.length - 1 - k)) (h : be cur + x * P = N) :
    be (cur.set k (UInt8.ofNat z)) + x' * (P * 256) = N := by
  have hs := be_set cur k (UInt8.ofNat z) hk
  rw [← hP] at hs
  have ez : (UInt8.ofNat z).toNat = z := by simp; omega
  rw [ez] at hs
  have e1 : x' * (P * 256) = 256 * x' * P := by rw [Nat.mul_comm P, ← Nat.mul_assoc, Nat.mul_comm x']
  have e2 : (256 * x' + z) * P = (x + (cur.getD k 0).toNat) * P := by rw [← hy]; congr 1; omega
  rw [Nat.add_mul, Nat.add_mul] at e2
  omega

/-- What an addition leaves: behind a definition, so that no walk looks into it. -/
def RcAddPost (w : World) (g q c r N L : Nat) (e : Ending) (w' : World) : Prop :=
  e = .returned (.tuple #[]) ∧ ∃ cs, Blk w' g 102 (rnCells q L c r) ∧ Byt w' q c cs ∧ be cs = N ∧ cs.length = L ∧ Only (fun i => i = q) w w'

set_option maxHeartbeats 4000000 in
theorem add_any {w : World} {g q c r v N : Nat} {bs : List UInt8} (hB : Blk w g 102 (rnCells q bs.length c r)) (hY : Byt w q c bs) (hqg : q ≠ g) (hv : v < 4294967296) (hN : N = be bs + v) (hfit : N < 256 ^ bs.length) (hlen : bs.length ≤ 1000000000) :
    Calls Tryz.prog 102 #[.pointer (some ⟨g, 0, none⟩), .int .u64 (v : Int)] w (RcAddPost w g q c r N bs.length) := by
  generalize hL : bs.length = L at *
  have HB := Lib.hid hB
  have HY := Lib.hid hY
  have HN := Lib.hid hN
  have HF := Lib.hid hfit
  have HL := Lib.hid hL
  have c0 : w.cell? ⟨g, 0, none⟩ = some (.slice (some ⟨q, 0, none⟩) L c) := hB.cell 0
  have e0 : IntKind.i64.wrap ((L : Int) - 1) = (L : Int) - 1 := IntWalk.i64_in _ (by omega)
  clear hB hY hN hfit hL
  go_enter Tryz.func102, Tryz.ntmps102
  go_wp2_with fail
  go_loopw [1, 4] (fun vv i wr => ∃ (u x : Nat) (iv : Int) (cur : List UInt8), u ≤ L ∧ i = .int .i64 iv ∧ iv + 1 = (u : Int) ∧ vv = .int .u64 (x : Int) ∧ x < 4294967296 ∧ cur.length = L ∧ be cur + x * 256 ^ (L - u) = N ∧ Blk wr g 102 (rnCells q L c r) ∧ Byt wr q c cur ∧ Only (fun i => i = q) w wr) (fun _ i _ => (intOf i + 1).toNat)
  case atStart => exact ⟨L, v, _, bs, Nat.le_refl _, rfl, by omega, rfl, hv, HL.out, by rw [Nat.sub_self, Nat.pow_zero, Nat.mul_one, HN.out], HB.out, HY.out, Only.refl _ _⟩
  case round =>
    clear HB HY c0
    obtain ⟨u, x, iv, cur, hu, rfl, hiv, rfl, hx, hcl, hsum, hB, hY, hO⟩ := hrel
    have HBr := Lib.hid hB
    have HYr := Lib.hid hY
    have HOr := Lib.hid hO
    have HS := Lib.hid hsum
    have HCL := Lib.hid hcl
    have c0 : wr.cell? ⟨g, 0, none⟩ = some (.slice (some ⟨q, 0, none⟩) L c) := hB.cell 0
    by_cases hgo : 0 < u ∧ 0 < x
    · obtain ⟨k, rfl⟩ : ∃ k, u = k + 1 := ⟨u - 1, by omega⟩
      obtain rfl : iv = (k : Int) := by omega
      have hkl : k < cur.length := by omega
      have cx := hY.cell hkl
      have fx := hY.free k
      have hbl := (cur.getD k 0).toNat_lt
      obtain ⟨y, hy⟩ : ∃ y, y = x + (cur.getD k 0).toNat := ⟨_, rfl⟩
      obtain ⟨z, hz⟩ : ∃ z, z = y % 256 := ⟨_, rfl⟩
      obtain ⟨x', hx'⟩ : ∃ x', x' = y / 256 := ⟨_, rfl⟩
      have hstep := add_step (N := N) hz hx' hy hkl rfl (by rw [hcl, show L - 1 - k = L - (k + 1) by omega]; exact hsum)
      rw [hcl, ← Nat.pow_succ, show (L - 1 - k).succ = L - k by omega] at hstep
      have HST := Lib.hid hstep
      have e1 : IntKind.u64.wrap ((x : Int) + ((cur.getD k 0).toNat : Int)) = (y : Int) := by rw [← Int.natCast_add, ← hy]; exact u64_in _ (by omega)
      have e2 : IntKind.u64.wrap ((cur.getD k 0).toNat : Int) = ((cur.getD k 0).toNat : Int) := u64_in _ (by omega)
      have e3 : (y : Int).tmod 256 = (z : Int) := by rw [Int.tmod_eq_emod_of_nonneg (by omega)]; omega
      have e4 : IntKind.u8.wrap (z : Int) = (z : Int) := by simp [IntKind.wrap, IntKind.bits, IntKind.signed]; omega
      have e5 : (y : Int) / 256 = (x' : Int) := by omega
      have e7 : IntKind.u64.wrap (x' : Int) = (x' : Int) := u64_in _ (by omega)
      have e6 : IntKind.i64.wrap ((k : Int) - 1) = (k : Int) - 1 := IntWalk.i64_in _ (by omega)
      have HZU := Lib.hid (show ((UInt8.ofNat z).toNat : Int) = (z : Int) by have : (UInt8.ofNat z).toNat = z := by { simp; omega }; rw [this])
      have hx2 : x' < 4294967296 := by omega
      have i0 : (k : Int) ≥ 0 := by omega
      have i1 : (k : Int) < (L : Int) := by omega
      have i2 : (x : Int) > 0 := by omega
      have HX2 := Lib.hid hx2
      generalize (cur.getD k 0).toNat = bb at *
      clear hB hY hO hsum hstep hz hx' hy hbl hx2 hcl hkl hiv
      go_wp2_with fail
      go_roundw
      case rel =>
        have hY2 := HYr.out.put k (UInt8.ofNat z)
        rw [HZU.out] at hY2
        exact ⟨k, x', (k : Int) - 1, cur.set k (UInt8.ofNat z), by omega, rfl, by omega, rfl, HX2.out, by rw [List.length_set]; exact HCL.out, HST.out, HBr.out.far (fun e => hqg e.symm) _, hY2, HOr.out.setCell (p := ⟨q, k, none⟩) (.inl rfl) _⟩
      case measure => first | (simp [intOf]; done) | (simp [intOf]; omega)
    · have hx0 : x = 0 := by
        rcases Nat.eq_zero_or_pos x with h | h
        · exact h
        · have hu0 : u = 0 := by omega
          subst hu0
          have h1 := HF.out
          rw [← hsum, Nat.sub_zero] at h1
          have := Nat.mul_le_mul_right (256 ^ L) h
          omega
      subst hx0
      rw [Nat.zero_mul, Nat.add_zero] at hsum
      have HS2 := Lib.hid hsum
      clear hsum hB hY hO HS hgo hcl
      by_cases hu0 : 0 < u
      · have i0 : iv ≥ 0 := by omega
        go_wp2_with fail
        first | go_end0 | refine bodyPost_ret (results_none rfl _ _ _) rfl ?_
        exact ⟨rfl, cur, HBr.out, HYr.out, HS2.out, HCL.out, HOr.out⟩
      · have i0 : ¬ iv ≥ 0 := by omega
        go_wp2_with fail
        first | go_end0 | refine bodyPost_ret (results_none rfl _ _ _) rfl ?_
        exact ⟨rfl, cur, HBr.out, HYr.out, HS2.out, HCL.out, HOr.out⟩
end Go.Proofs.YtoencondpbkomaaGreat

/-
  The reference's coder: evened out, made, a bit, a question.
-/
namespace Go.Proofs.YtoencondpbkomaaGreat
open Go.RowKit

def twain (f g : Nat) : Nat → Prop := fun i => i = f ∨ i = g
theorem twain_l (f g : Nat) : twain f g f := .inl rfl
theorem twain_r (f g : Nat) : twain f g g := .inr rfl

/-- What a call of the reference's coder leaves. -/
def RnPost5 (w : World) (g q : Nat) (v : Value) (e' : En) (e : Ending) (w' : World) : Prop :=
  e = .returned v ∧ ∃ q', Rn w' g q' e' ∧ (q' = q ∨ w.heap.size ≤ q') ∧ Only (twain g q) w w'

section
variable {w : World} {g q c r : Nat} {bs : List UInt8}

set_option maxHeartbeats 1000000 in
theorem rlevel_high (hB : Blk w g 102 (rnCells q bs.length c r)) (hr : ¬ r < 16777216) :
    Calls Tryz.prog 101 #[.pointer (some ⟨g, 0, none⟩)] w fun e w' => e = .returned (.tuple #[]) ∧ w = w' := by
  have c1 : w.cell? ⟨g, 1, none⟩ = some (.int .u64 (r : Int)) := hB.cell 1
  have hr' : ¬ (r : Int) < 16777216 := by omega
  clear hB hr
  go_enter Tryz.func101, Tryz.ntmps101
  go_wp2_with fail
  go_loopw [] (fun wr => wr = w) (fun _ => 0)
  case atStart => rfl
  case round =>
    subst hrel
    have hr2 : ¬ (r : Int) < 16777216 := by omega
    go_wp2_with fail
    first | go_end0 | refine bodyPost_ret (results_none rfl _ _ _) rfl ?_
    exact ⟨rfl, rfl⟩

/-- the range has been multiplied, and a byte is behind -/
def LowDone (w wr : World) (g q : Nat) (bs : List UInt8) (R : Nat) : Prop :=
  ∃ q' c', Blk wr g 102 (rnCells q' (bs ++ [0]).length c' R) ∧ Byt wr q' c' (bs ++ [0]) ∧ q' ≠ g ∧ (q' = q ∨ w.heap.size ≤ q') ∧ Only (twain g q) w wr
open Classical in
/-- whether the range is still the one that was -/
noncomputable def lowLeft (wr : World) (g r : Nat) : Nat := if wr.cell? ⟨g, 1, none⟩ = some (.int .u64 (r : Int)) then 1 else 0

set_option maxHeartbeats 4000000 in
theorem rlevel_low (hB : Blk w g 102 (rnCells q bs.length c r)) (hY : Byt w q c bs) (hqg : q ≠ g) (hr : r < 16777216) (hr0 : 65536 ≤ r) (hlen : bs.length ≤ 1000000000) :
    Calls Tryz.prog 101 #[.pointer (some ⟨g, 0, none⟩)] w (RnPost5 w g q (.tuple #[]) ⟨be bs * 256, bs.length + 1, r * 256⟩) := by
  obtain ⟨i, hi, hz0, hz1, hz2⟩ := info_parts info_u8
  have c0 : w.cell? ⟨g, 0, none⟩ = some (.slice (some ⟨q, 0, none⟩) bs.length c) := hB.cell 0
  have c1 : w.cell? ⟨g, 1, none⟩ = some (.int .u64 (r : Int)) := hB.cell 1
  have f0 : w.frozen? ⟨g, 0, none⟩ = false := hB.free 0
  have f1 : w.frozen? ⟨g, 1, none⟩ = false := hB.free 1
  have hr' : (r : Int) < 16777216 := by omega
  have e1 : IntKind.u64.wrap ((r : Int) * 256) = ((r * 256 : Nat) : Int) := by rw [show (r : Int) * 256 = ((r * 256 : Nat) : Int) by omega]; exact u64_in _ (by omega)
  have hr2 : ¬ ((r * 256 : Nat) : Int) < 16777216 := by omega
  have HB := Lib.hid hB
  have HY := Lib.hid hY
  have hgl := hB.lt
  have hql := hY.lt
  have hrR : r ≠ r * 256 := by omega
  clear hB hY
  obtain ⟨R, hR⟩ : ∃ R, R = r * 256 := ⟨_, rfl⟩
  rw [← hR] at e1 hr2 hrR
  have HRR := Lib.hid hR
  have hR2 : ¬ R < 16777216 := by omega
  have HR2 := Lib.hid hR2
  have HRL := Lib.hid hr
  clear hR hR2 hr hr0 hr' hr2
  go_enter Tryz.func101, Tryz.ntmps101
  go_wp2_with fail
  go_loopw [] (fun wr => wr = w ∨ LowDone w wr g q bs R) (fun wr => lowLeft wr g r)
  case atStart => exact .inl rfl
  case round =>
    have HREL := Lib.hid hrel
    clear hrel
    rcases HREL.out with hw | hd
    · clear HREL
      obtain rfl : w = wr := hw.symm
      have hr' : (r : Int) < 16777216 := by have := HRL.out; omega
      have hO1 := (Only.refl (twain g q) w).setCell (p := ⟨g, 1, none⟩) (.inl (twain_l g q)) (.int .u64 (R : Int))
      have hY1 := HY.out.only ((Only.refl (fun j => j = g) w).setCell (p := ⟨g, 1, none⟩) (.inl rfl) (.int .u64 (R : Int))) hqg
      have hB1 := HB.out.put 1 (.int .u64 (R : Int))
      have hsz1 : (w.setCell ⟨g, 1, none⟩ (.int .u64 (R : Int))).heap.size = w.heap.size := by simp [World.setCell]
      have HO1 := Lib.hid hO1
      have HY1 := Lib.hid hY1
      have HB1 := Lib.hid hB1
      have d0 : (w.setCell ⟨g, 1, none⟩ (.int .u64 (R : Int))).cell? ⟨g, 0, none⟩ = some (.slice (some ⟨q, 0, none⟩) bs.length c) := hB1.cell 0
      have hnews : ∀ j u, [Value.int .u8 0][j]? = some u → ((w.setCell ⟨g, 1, none⟩ (.int .u64 (R : Int))).alloc (.cells #[.int .u8 0] 5)).cell? ((⟨w.heap.size, 0, none⟩ : Addr).add j) = some u := by rw [← hsz1]; exact (sl_one _ _ _).news
      have HNW := Lib.hid hnews
      have HSZ := Lib.hid hsz1
      clear hO1 hY1 hB1 hsz1 hnews
      go_wp2_with (at_builtin; refine wpList_append_lies _ rfl (.tmp 19) (.tmp 20) 22 rfl 0 5 i _ 1 1 Tryz.underlying22 hi hz0 hz1 hz2 rfl (by omega) _ bs.length (bv bs) rfl (HY1.out.own.alloc _) _ 1 1 [.int .u8 0] rfl rfl HNW.out (one_one _ _) (by omega) (by unfold maxLen; omega) (by omega) (Nat.zero_le _) _ rfl ?_)
      intro q' c' w3 ho hg hq hql3
      have hw2 : Only (twain g q) w ((w.setCell ⟨g, 1, none⟩ (.int .u64 (R : Int))).alloc (.cells #[.int .u8 0] 5)) := HO1.out.alloc _
      have h3 := hw2.trans (Only.of_grown hg (twain_r g q))
      have hgs : w.heap.size ≤ ((w.setCell ⟨g, 1, none⟩ (.int .u64 (R : Int))).alloc (.cells #[.int .u8 0] 5)).heap.size := hw2.size
      have hB3 := (HB1.out.alloc (.cells #[.int .u8 0] 5)).grown hg (by intro e; injection e with e; exact hqg e.symm)
      have hq2 : q' = q ∨ w.heap.size ≤ q' := by
        rcases hq with hq | hq
        · left; simp [Value.ownBlock] at hq; exact hq.symm
        · right; omega
      have hqg' : q' ≠ g := by rcases hq2 with h | h <;> omega
      have k0 : w3.cell? ⟨g, 0, none⟩ = some (.slice (some ⟨q, 0, none⟩) bs.length c) := hB3.cell 0
      have k1 : w3.cell? ⟨g, 1, none⟩ = some (.int .u64 (R : Int)) := hB3.cell 1
      have z0 : w3.frozen? ⟨g, 0, none⟩ = false := hB3.free 0
      have HO3 := Lib.hid h3
      have HB3 := Lib.hid hB3
      have HQ2 := Lib.hid hq2
      have hy3 : Byt w3 q' c' (bs ++ [0]) := by
        unfold Byt
        rw [bv_append, List.length_append]
        exact ho
      have HY3 := Lib.hid hy3
      clear ho hg hq hw2 h3 hB3 hq2 hy3 d0 f0 f1 c0 HO1 HY1 HB1 HSZ hgs
      go_wp2_with fail
      go_roundw
      case rel =>
        right
        refine ⟨q', c', ?_, HY3.out.only ((Only.refl (fun j => j = g) w3).setCell (p := ⟨g, 0, none⟩) (.inl rfl) _) hqg', hqg', HQ2.out, HO3.out.setCell (p := ⟨g, 0, none⟩) (.inl (twain_l g q)) _⟩
        have := HB3.out.put 0 (.slice (some ⟨q', 0, none⟩) (bs.length + 1) c')
        rw [List.length_append]
        exact this
      case measure =>
        have n1 : (w3.setCell ⟨g, 0, none⟩ (.slice (some ⟨q', 0, none⟩) (bs.length + 1) c')).cell? ⟨g, 1, none⟩ = some (.int .u64 (R : Int)) := (HB3.out.put 0 (.slice (some ⟨q', 0, none⟩) (bs.length + 1) c')).cell 1
        unfold lowLeft
        rw [if_neg (by rw [n1]; intro e; injection e with e; injection e with _ e; omega), if_pos c1]
        omega
    · clear HREL
      obtain ⟨q', c', hB3, hY3, hqg', hq2, hO3⟩ := hd
      have k1 : wr.cell? ⟨g, 1, none⟩ = some (.int .u64 (R : Int)) := hB3.cell 1
      have HB3 := Lib.hid hB3
      have HY3 := Lib.hid hY3
      have HQ2 := Lib.hid hq2
      have HO3 := Lib.hid hO3
      clear hB3 hY3 hq2 hO3 c0 c1 f0 f1
      have hr2 : ¬ (R : Int) < 16777216 := by have := HR2.out; omega
      go_wp2_with fail
      first | go_end0 | refine bodyPost_ret (results_none rfl _ _ _) rfl ?_
      rw [← HRR.out]
      exact ⟨rfl, q', ⟨c', bs ++ [0], HB3.out, HY3.out, by rw [be_snoc]; simp, by simp, hqg'⟩, HQ2.out, HO3.out⟩

theorem rlevel_any {e : En} (h : Rn w g q e) (hr0 : 65536 ≤ e.r) (hlen : e.l ≤ 1000000000) :
    Calls Tryz.prog 101 #[.pointer (some ⟨g, 0, none⟩)] w (RnPost5 w g q (.tuple #[]) e.even) := by
  obtain ⟨c, bs, hB, hY, hn, hl, hqg⟩ := h
  by_cases hr : e.r < 16777216
  · have := rlevel_low hB hY hqg hr hr0 (by omega)
    have he : e.even = ⟨be bs * 256, bs.length + 1, e.r * 256⟩ := by unfold En.even; rw [if_pos hr, hn, hl]
    rw [he]
    exact this
  · have he : e.even = e := by unfold En.even; rw [if_neg hr]
    rw [he]
    refine (rlevel_high hB hr).mono ?_
    rintro e' w' ⟨rfl, rfl⟩
    exact ⟨rfl, q, ⟨c, bs, hB, hY, hn, hl, hqg⟩, .inl rfl, Only.refl _ _⟩

set_option maxHeartbeats 2000000 in
theorem rnew5_any (w : World) : Calls Tryz.prog 32 #[] w fun e w' => e = .returned (.pointer (some ⟨w.heap.size + 1, 0, none⟩)) ∧ Rn w' (w.heap.size + 1) w.heap.size En.new ∧ Below w.heap.size w w' := by
  obtain ⟨i, hi, hz0, hz1, hz2⟩ := info_parts info_u8
  have hmk : ∀ w, (Instr.makeSlice 22 (.int .i64 5) (.int .i64 5)).run Tryz.prog w = .ok (.slice (some ⟨w.heap.size, 0, none⟩) 5 5) (w.alloc (.cells #[.int .u8 0, .int .u8 0, .int .u8 0, .int .u8 0, .int .u8 0] 5)) := fun _ => by kernel_rfl
  have hsz : (w.alloc (.cells #[.int .u8 0, .int .u8 0, .int .u8 0, .int .u8 0, .int .u8 0] 5)).heap.size = w.heap.size + 1 := by simp
  have HY := Lib.hid (show Byt (w.alloc (.cells #[.int .u8 0, .int .u8 0, .int .u8 0, .int .u8 0, .int .u8 0] 5)) w.heap.size 5 [0, 0, 0, 0, 0] from
    ⟨by simp [bv], .inr ⟨w.heap.size, 5, #[.int .u8 0, .int .u8 0, .int .u8 0, .int .u8 0, .int .u8 0], rfl, Nat.zero_le _, heap_alloc_new w _, by simp, by unfold maxLen; omega, by simp, by simp [bv]⟩⟩)
  have HSZ := Lib.hid hsz
  have HB := Lib.hid ((Below.refl w.heap.size w).alloc (Nat.le_refl _) (.cells #[.int .u8 0, .int .u8 0, .int .u8 0, .int .u8 0, .int .u8 0] 5))
  clear hsz
  go_enter Tryz.func32, Tryz.ntmps32
  go_wp2_with fail
  go_ret
  have hsz := HSZ.out
  generalize (w.alloc (.cells #[.int .u8 0, .int .u8 0, .int .u8 0, .int .u8 0, .int .u8 0] 5)) = w1 at *
  refine ⟨rfl, ⟨5, [0, 0, 0, 0, 0], ?_, HY.out.only ((Only.refl (fun _ => False) w1).alloc _) (fun h => h), rfl, rfl, by omega⟩, HB.out.alloc (by omega) _⟩
  have := Blk.fresh w1 102 (rnCells w.heap.size 5 5 4294967295)
  rw [hsz] at this
  exact this

theorem wrapU16 (x : Int) (h : 0 ≤ x ∧ x < 65536) : IntKind.u16.wrap x = x := by
  simp [IntKind.wrap, IntKind.bits, IntKind.signed]
  omega

set_option maxHeartbeats 4000000 in
theorem rbit5_zero {e : En} {p z : Nat} (hz : z = e.r / 2048 * p) (h : Rn w g q e) (he : EnOk e) (hp : POk p) (hlen : e.l ≤ 999999999) :
    Calls Tryz.prog 72 #[.pointer (some ⟨g, 0, none⟩), .int .u16 (p : Int), .int .i64 0] w (RnPost5 w g q (.int .u16 (up0 p : Int)) (En.even ⟨e.n, e.l, z⟩)) := by
  obtain ⟨b0, b1⟩ := bound_in he.1 he.2.1 hp
  have hr := he.2.1
  obtain ⟨p0, p1⟩ := hp
  obtain ⟨c, bs, hB, hY, hn, hl, hqg⟩ := h
  rw [← hz] at b0 b1
  have h1 : w.cell? ⟨g, 1, none⟩ = some (.int .u64 (e.r : Int)) := hB.cell 1
  have f1 : w.frozen? ⟨g, 1, none⟩ = false := hB.free 1
  have e0 : IntKind.u64.wrap (p : Int) = (p : Int) := u64_in _ (by omega)
  have e1 : IntKind.u64.wrap ((e.r : Int) / 2048 * (p : Int)) = (z : Int) := by
    rw [show (e.r : Int) / 2048 * (p : Int) = (z : Int) by rw [hz]; simp]
    exact u64_in _ (by omega)
  have e2 : IntKind.u16.wrap (2048 - (p : Int)) = 2048 - (p : Int) := wrapU16 _ (by omega)
  obtain ⟨u, hu⟩ : ∃ u, u = (2048 - p) / 32 := ⟨_, rfl⟩
  have e3 : IntKind.u16.wrap ((2048 - (p : Int)).tdiv 32) = (u : Int) := by
    rw [Int.tdiv_eq_ediv_of_nonneg (by omega), show (2048 - (p : Int)) / 32 = (u : Int) by omega]
    exact wrapU16 _ (by omega)
  have hup : up0 p = p + u := by unfold up0; omega
  have e5 : IntKind.u16.wrap ((p : Int) + (u : Int)) = ((p + u : Nat) : Int) := by rw [← Int.natCast_add]; exact wrapU16 _ (by omega)
  rw [hup]
  have hO := (Only.refl (fun i => i = g) w).setCell (p := ⟨g, 1, none⟩) (.inl rfl) (.int .u64 (z : Int))
  have K := Lib.hid (rlevel_any (e := ⟨e.n, e.l, z⟩) (⟨c, bs, hB.put 1 (.int .u64 (z : Int)), hY.only hO hqg, hn, hl, hqg⟩ : Rn (w.setCell ⟨g, 1, none⟩ (.int .u64 (z : Int))) g q ⟨e.n, e.l, z⟩) (by show 65536 ≤ z; omega) (by show e.l ≤ _; omega))
  have HO := Lib.hid hO
  clear hB hY hO hu hup hz he hn hl
  generalize p + u = pu at *
  go_enter Tryz.func72, Tryz.ntmps72
  go_wp2_with fail
  refine K.out.mono ?_
  rintro e' w1 ⟨rfl, q', hN, hq, hO1⟩
  have HN := Lib.hid hN
  have HQ := Lib.hid hq
  have HO1 := Lib.hid ((HO.out.mono (fun i hi => .inl hi) : Only (twain g q) w _).trans hO1)
  clear hN hq hO1 HO K
  go_wp2_with fail
  go_ret
  refine ⟨rfl, q', HN.out, ?_, HO1.out⟩
  rcases HQ.out with h | h
  · exact .inl h
  · right
    have hs : (w.setCell ⟨g, 1, none⟩ (.int .u64 (z : Int))).heap.size = w.heap.size := by simp [World.setCell]
    rw [hs] at h
    exact h

set_option maxHeartbeats 4000000 in
theorem rbit5_one {e : En} {p z : Nat} (hz : z = e.r / 2048 * p) (h : Rn w g q e) (he : EnOk e) (hp : POk p) (hlen : e.l ≤ 999999999) :
    Calls Tryz.prog 72 #[.pointer (some ⟨g, 0, none⟩), .int .u16 (p : Int), .int .i64 1] w (RnPost5 w g q (.int .u16 (up1 p : Int)) (En.even ⟨e.n + z, e.l, e.r - z⟩)) := by
  obtain ⟨b0, b1⟩ := bound_in he.1 he.2.1 hp
  have hr := he.2.1
  obtain ⟨p0, p1⟩ := hp
  obtain ⟨c, bs, hB, hY, hn, hl, hqg⟩ := h
  rw [← hz] at b0 b1
  have h1 : w.cell? ⟨g, 1, none⟩ = some (.int .u64 (e.r : Int)) := hB.cell 1
  have e0 : IntKind.u64.wrap (p : Int) = (p : Int) := u64_in _ (by omega)
  have e1 : IntKind.u64.wrap ((e.r : Int) / 2048 * (p : Int)) = (z : Int) := by
    rw [show (e.r : Int) / 2048 * (p : Int) = (z : Int) by rw [hz]; simp]
    exact u64_in _ (by omega)
  have hfit : e.n + z < 256 ^ bs.length := by rw [hl]; exact enIn_fits he.2.2 (by omega)
  have KA := Lib.hid (add_any (v := z) (N := e.n + z) hB hY hqg (by omega) (by rw [hn]) hfit (by omega))
  have e3 : IntKind.u64.wrap ((e.r : Int) - (z : Int)) = ((e.r - z : Nat) : Int) := by rw [show (e.r : Int) - (z : Int) = ((e.r - z : Nat) : Int) by omega]; exact u64_in _ (by omega)
  have hup : up1 p = p - p / 32 := rfl
  have e5 : IntKind.u16.wrap ((p : Int) - (p : Int) / 32) = ((p - p / 32 : Nat) : Int) := by rw [show (p : Int) - (p : Int) / 32 = ((p - p / 32 : Nat) : Int) by omega]; exact wrapU16 _ (by omega)
  have e6 : IntKind.u16.wrap ((p : Int) / 32) = (p : Int) / 32 := wrapU16 _ (by omega)
  rw [hup]
  have HL := Lib.hid hl
  have hr1 : 65536 ≤ e.r - z := by omega
  clear hB hY hup hz he hn hl hfit
  generalize p - p / 32 = pu at *
  generalize e.r - z = r1 at *
  go_enter Tryz.func72, Tryz.ntmps72
  go_wp2_with fail
  refine KA.out.mono ?_
  rintro e' w1 ⟨rfl, cs, hB1, hY1, hn1, hl1, hO1⟩
  have d1 : w1.cell? ⟨g, 1, none⟩ = some (.int .u64 (e.r : Int)) := hB1.cell 1
  have f1 : w1.frozen? ⟨g, 1, none⟩ = false := hB1.free 1
  have hO := (Only.refl (fun i => i = g) w1).setCell (p := ⟨g, 1, none⟩) (.inl rfl) (.int .u64 (r1 : Int))
  have hB2 := hB1.put 1 (.int .u64 (r1 : Int))
  rw [← hl1] at hB2
  have K := Lib.hid (rlevel_any (e := ⟨e.n + z, e.l, r1⟩) (⟨c, cs, hB2, hY1.only hO hqg, hn1, hl1.trans HL.out, hqg⟩ : Rn (w1.setCell ⟨g, 1, none⟩ (.int .u64 (r1 : Int))) g q ⟨e.n + z, e.l, r1⟩) hr1 (by show e.l ≤ _; omega))
  have hsz := hO1.size
  have hs : (w1.setCell ⟨g, 1, none⟩ (.int .u64 (r1 : Int))).heap.size = w1.heap.size := by simp [World.setCell]
  have HS := Lib.hid (show w.heap.size ≤ (w1.setCell ⟨g, 1, none⟩ (.int .u64 (r1 : Int))).heap.size by rw [hs]; exact hsz)
  have HO := Lib.hid ((hO1.mono (fun i hi => .inr hi) : Only (twain g q) w w1).trans (hO.mono (fun i hi => .inl hi)))
  clear hB1 hY1 hn1 hl1 hO1 hO hB2 hsz hs h1
  go_wp2_with fail
  refine K.out.mono ?_
  rintro e' w2 ⟨rfl, q', hN, hq, hO2⟩
  have HN := Lib.hid hN
  have HQ := Lib.hid hq
  have HO2 := Lib.hid (HO.out.trans hO2)
  clear hN hq hO2 HO K
  go_wp2_with fail
  go_ret
  refine ⟨rfl, q', HN.out, ?_, HO2.out⟩
  rcases HQ.out with h | h
  · exact .inl h
  · exact .inr (Nat.le_trans HS.out h)

theorem rbit5_any {e : En} {p b : Nat} (h : Rn w g q e) (he : EnOk e) (hp : POk p) (hb : b ≤ 1) (hlen : e.l ≤ 999999999) :
    Calls Tryz.prog 72 #[.pointer (some ⟨g, 0, none⟩), .int .u16 (p : Int), .int .i64 (b : Int)] w (RnPost5 w g q (.int .u16 (upOf p b : Int)) (e.bit p b)) := by
  unfold upOf En.bit
  by_cases hb0 : b = 0
  · subst hb0
    rw [if_pos rfl, if_pos rfl]
    exact rbit5_zero rfl h he hp hlen
  · obtain rfl : b = 1 := by omega
    rw [if_neg hb0, if_neg hb0]
    exact rbit5_one rfl h he hp hlen
end
end Go.Proofs.YtoencondpbkomaaGreat

/-
  The reference of LZMA codes bits: its machine is the reference's coder.
-/
namespace Go.Proofs.YtoencondpbkomaaGreat
open Go.RowKit

/-- the reference's coder, its state e -/
def Ke (w : World) (Dv Ev : Value) (Gm : Nat → Prop) (e : En) : Prop :=
  ∃ eb q, Dv = .pointer none ∧ Ev = .pointer (some ⟨eb, 0, none⟩) ∧ (∀ i, Gm i ↔ (i = eb ∨ i = q)) ∧ Rn w eb q e

theorem ke_mem : MachMem (fun _ => False) Ke where
  old := by
    rintro w Dv Ev G x i ⟨eb, q, rfl, rfl, hG, hR⟩ hi
    have := hR.lt
    rcases (hG i).1 hi with h | h <;> omega
  only := by
    rintro w w' Dv Ev G x S ⟨eb, q, rfl, rfl, hG, hR⟩ hO hG' _
    exact ⟨eb, q, rfl, rfl, hG, hR.only hO (hG' eb ((hG eb).2 (.inl rfl))) (hG' q ((hG q).2 (.inr rfl)))⟩

section
variable {w : World} {g : Nat} {G : Nat → Prop} {z : Lzs} {t : Pm En}

set_option maxHeartbeats 4000000 in
theorem zbit_enc {L k a : Nat} {b : Int} (h : Zz (fun _ => False) Ke w g G z t) (ht : PmOk okE L (k + 1) t) (ha : a < L) (hL : L ≤ 100000000) (hb : b = 0 ∨ b = 1) :
    Calls Tryz.prog 54 #[.pointer (some ⟨g, 0, none⟩), .int .i64 (a : Int), .int .i64 b] w (ZPost (fun _ => False) Ke w g G z (bitP encM t a b).2 (.int .i64 ((bitP encM t a b).1 : Int))) := by
  obtain ⟨Gm, Dv, Ev, p, pc, A1, c1, hz⟩ := h
  obtain ⟨eb, q0, rfl, rfl, hGm, hRn⟩ := hz.mch
  obtain ⟨bn, rfl⟩ : ∃ n : Nat, b = (n : Int) := ⟨b.toNat, by omega⟩
  have hb1 : bn ≤ 1 := by omega
  have hlt : a < t.ps.length := by rw [ht.len]; exact ha
  have d5 : w.cell? ⟨g, 5, none⟩ = some (.pointer (some ⟨eb, 0, none⟩)) := hz.blk.cell 5
  have d6 : w.cell? ⟨g, 6, none⟩ = some (.slice (some ⟨p, 0, none⟩) t.ps.length pc) := hz.blk.cell 6
  have dp : w.cell? ⟨p, a, none⟩ = some (.int .u16 ((t.ps.getD a 0 : Nat) : Int)) := hz.row.cell hlt
  have hle := ht.x.2
  have K := Lib.hid (rbit5_any (w := w.drew) (p := t.ps.getD a 0) (b := bn) (hRn.drewN 1) ht.x.1 (getD_ok ht.ps hlt) hb1 (by omega))
  have i0 : (0 : Int) ≤ (a : Int) := by omega
  have i1 : (a : Int) < (t.ps.length : Int) := by omega
  have HZ := Lib.hid hz
  have HGM := Lib.hid hGm
  have hbit : bitP encM t a ((bn : Nat) : Int) = (bn, ⟨t.ps.set a (upOf (t.ps.getD a 0) bn), t.x.bit (t.ps.getD a 0) bn⟩) := rfl
  rw [hbit]
  have HLT := Lib.hid hlt
  have HRNL := Lib.hid hRn.lt
  clear hbit hz hGm hRn ht ha hL hlt hle hb hb1
  generalize t.x.bit (t.ps.getD a 0) bn = e' at *
  obtain ⟨qv, hqv⟩ : ∃ q, q = upOf (t.ps.getD a 0) bn := ⟨_, rfl⟩
  rw [← hqv] at K ⊢
  clear hqv
  obtain ⟨pr, hpr⟩ : ∃ pr, pr = t.ps.getD a 0 := ⟨_, rfl⟩
  rw [← hpr] at dp K
  have HDP := Lib.hid hpr
  clear hpr
  obtain ⟨N, hN⟩ : ∃ N, N = t.ps.length := ⟨_, rfl⟩
  rw [← hN] at d6 i1
  have HN := Lib.hid hN
  clear hN
  go_enter Tryz.func54, Tryz.ntmps54
  go_wp2_with fail
  go_region_law (first | (go_simp; go_at_call 72; refine K.out.mono ?_; rintro e w1 ⟨rfl, q1, hR1, hq1, hO1'⟩; have hO1 : Only (twain eb q0) w w1 := ((Only.refl (twain eb q0) w).drew).trans hO1'; have hz1 := HZ.out.mach (w' := w1) (Gm' := fun i => i = eb ∨ i = q1) (x := e') (hO1.mono (fun i hi => (HGM.out i).2 hi)) ⟨eb, q1, rfl, rfl, fun i => Iff.rfl, hR1⟩ (fun i hi => (by rcases hi with hi | hi; exact .inl ((HGM.out i).2 (.inl hi)); (rcases hq1 with h1 | h1; exact .inl ((HGM.out i).2 (.inr (hi.trans h1))); exact .inr (by rw [hi]; exact h1)))) (fun i hi => (by have hl := hR1.lt; rcases hi with hi | hi; omega; omega)) (fun _ h => h.elim); have j0 : w1.cell? ⟨g, 5, none⟩ = some (.pointer (some ⟨eb, 0, none⟩)) := hz1.blk.cell 5; have j1 : w1.cell? ⟨g, 6, none⟩ = some (.slice (some ⟨p, 0, none⟩) N pc) := (by rw [HN.out]; exact hz1.blk.cell 6); have j2 : w1.cell? ⟨p, a, none⟩ = some (.int .u16 (pr : Int)) := (by rw [HDP.out]; exact hz1.row.cell HLT.out); have zp : w1.frozen? ⟨p, a, none⟩ = false := hz1.row.free a; have HZ1 := Lib.hid hz1; have HO1 := Lib.hid hO1; have HQ1 := Lib.hid hq1; clear hz1 hO1 hO1' hR1 hq1))
  all_goals
    go_wp2_with fail
    go_ret
    refine ⟨rfl, fun i => G i ∨ (i = eb ∨ i = q1), ⟨_, _, _, p, pc, A1, c1, HZ1.out.prob ke_mem a qv⟩, fun i hi => ?_, (HO1.out.mono (fun i hi => HZ.out.gm i ((HGM.out i).2 hi))).setCell (p := ⟨p, a, none⟩) (.inl HZ.out.gp) _⟩
    rcases hi with hi | hi | hi
    · exact .inl hi
    · exact .inl (HZ.out.gm i ((HGM.out i).2 (.inl hi)))
    · rcases HQ1.out with h1 | h1
      · exact .inl (HZ.out.gm i ((HGM.out i).2 (.inr (hi.trans h1))))
      · exact .inr (by rw [hi]; exact h1)
end
end Go.Proofs.YtoencondpbkomaaGreat

/-
  The reference's coder codes bits straight.
-/
namespace Go.Proofs.YtoencondpbkomaaGreat
open Go.RowKit

/-- the bit that the text reckons -/
theorem bit_int (V i : Nat) : ((V : Int) / 2 ^ i).tmod 2 = ((bitOf V i : Nat) : Int) := by
  unfold bitOf
  obtain ⟨y, hy⟩ : ∃ y, y = V / 2 ^ i := ⟨_, rfl⟩
  have h : (V : Int) / ((2 ^ i : Nat) : Int) = (y : Int) := by rw [hy]; exact (Int.natCast_ediv V (2 ^ i)).symm
  rw [cast_pow2, h, ← hy, Int.tmod_eq_emod_of_nonneg (by omega)]
  omega
theorem not_two {g q x : Nat} (h : x ≠ g) (k : x ≠ q) : ¬ twain g q x := by
  intro e
  rcases e with e | e
  · exact h e
  · exact k e
/-- the reference's coder with its range stored -/
theorem rn_range {w : World} {g q h : Nat} {e : En} (hN : Rn w g q e) : Rn (w.setCell ⟨g, 1, none⟩ (.int .u64 (h : Int))) g q ⟨e.n, e.l, h⟩ := by
  obtain ⟨c, bs, hB, hY, hn, hl, hqg⟩ := hN
  exact ⟨c, bs, hB.put 1 (.int .u64 (h : Int)), hY.only ((Only.refl (fun i => i = g) w).setCell (p := ⟨g, 1, none⟩) (.inl rfl) _) hqg, hn, hl, hqg⟩
theorem rn_cells {w : World} {g q : Nat} {e : En} (hN : Rn w g q e) : w.cell? ⟨g, 1, none⟩ = some (.int .u64 (e.r : Int)) ∧ w.frozen? ⟨g, 1, none⟩ = false := by
  obtain ⟨c, bs, hB, _⟩ := hN
  exact ⟨hB.cell 1, hB.free 1⟩
/-- an addition, over the coder's state -/
def AddEPost (w : World) (g q : Nat) (e' : En) (e : Ending) (w' : World) : Prop := e = .returned (.tuple #[]) ∧ Rn w' g q e' ∧ Only (fun i => i = q) w w'
theorem rn_add {w : World} {g q v : Nat} {e : En} (hN : Rn w g q e) (hv : v < 4294967296) (hfit : e.n + v < 256 ^ e.l) (hlen : e.l ≤ 1000000000) :
    Calls Tryz.prog 102 #[.pointer (some ⟨g, 0, none⟩), .int .u64 (v : Int)] w (AddEPost w g q ⟨e.n + v, e.l, e.r⟩) := by
  obtain ⟨c, bs, hB, hY, hn, hl, hqg⟩ := hN
  refine (add_any (v := v) (N := e.n + v) hB hY hqg hv (by rw [hn]) (by rw [hl]; exact hfit) (by omega)).mono ?_
  rintro e' w' ⟨rfl, cs, h1, h2, h3, h4, h5⟩
  exact ⟨rfl, ⟨c, cs, by rw [h4]; exact h1, h2, h3, h4.trans hl, hqg⟩, h5⟩

/-- What bits straight leave. -/
def StrEPost (w : World) (g q : Nat) (e' : En) (e : Ending) (w' : World) : Prop :=
  e = .returned (.tuple #[]) ∧ ∃ q', Rn w' g q' e' ∧ (q' = q ∨ w.heap.size ≤ q') ∧ Only (twain g q) w w'

set_option maxHeartbeats 4000000 in
theorem rask5n_straight {w : World} {g q : Nat} {e : En} {a : Int} {n V : Nat} (h : Rn w g q e) (he : EnOk e) (hV : V < 4294967296) (hlen : e.l ≤ 999999000) (hn : n ≤ 32) :
    Calls Tryz.prog 74 #[.pointer (some ⟨g, 0, none⟩), .slice none 0 0, .agg #[.int .i64 3, .int .i64 a, .int .i64 (n : Int), .int .u32 (V : Int)]] w
      (StrEPost w g q (strE e V n n)) := by
  have en1 : IntKind.i64.wrap ((n : Int) - 1) = (n : Int) - 1 := IntWalk.i64_in _ (by omega)
  have hlt := h.lt
  have hnew := (Only.refl (fun _ => False) w).alloc (.cells #[.int .i64 3, .int .i64 a, .int .i64 (n : Int), .int .u32 (V : Int)] 131)
  have HX0 := Lib.hid (show (w.alloc (.cells #[.int .i64 3, .int .i64 a, .int .i64 (n : Int), .int .u32 (V : Int)] 131)).cell? ⟨w.heap.size, 0, none⟩ = some (.int .i64 3) from (Blk.fresh w _ _).cell 0)
  have HX1 := Lib.hid (show (w.alloc (.cells #[.int .i64 3, .int .i64 a, .int .i64 (n : Int), .int .u32 (V : Int)] 131)).cell? ⟨w.heap.size, 1, none⟩ = some (.int .i64 a) from (Blk.fresh w _ _).cell 1)
  have HX2 := Lib.hid (show (w.alloc (.cells #[.int .i64 3, .int .i64 a, .int .i64 (n : Int), .int .u32 (V : Int)] 131)).cell? ⟨w.heap.size, 2, none⟩ = some (.int .i64 (n : Int)) from (Blk.fresh w _ _).cell 2)
  have HX3 := Lib.hid (show (w.alloc (.cells #[.int .i64 3, .int .i64 a, .int .i64 (n : Int), .int .u32 (V : Int)] 131)).cell? ⟨w.heap.size, 3, none⟩ = some (.int .u32 (V : Int)) from (Blk.fresh w _ _).cell 3)
  have HSZ := Lib.hid (show w.heap.size < (w.alloc (.cells #[.int .i64 3, .int .i64 a, .int .i64 (n : Int), .int .u32 (V : Int)] 131)).heap.size from (Blk.fresh w _ _).lt)
  have HH := Lib.hid (h.only hnew (fun h => h) (fun h => h))
  have HO := Lib.hid hnew
  have HE := Lib.hid he
  clear h hnew he
  go_enter Tryz.func74, Tryz.ntmps74
  go_wp2_with fail
  have hx1 := HX1.out
  have hx2 := HX2.out
  have hx3 := HX3.out
  clear HX0 HX1 HX2 HX3
  generalize (w.alloc (.cells #[.int .i64 3, .int .i64 a, .int .i64 (n : Int), .int .u32 (V : Int)] 131)) = w1 at *
  generalize hBB : w.heap.size = B at *
  have HBB := Lib.hid hBB
  clear hBB
  have HSZ2 := Lib.hid HSZ.out
  go_loopw [12] (fun i wr => ∃ (j : Nat) (q1 : Nat) (iv : Int), j ≤ n ∧ i = .int .i64 iv ∧ iv + 1 = ((n - j : Nat) : Int) ∧ Rn wr g q1 (strE e V n j) ∧ (q1 = q ∨ w1.heap.size ≤ q1) ∧ Only (twain g q) w1 wr) (fun i _ => (intOf i + 1).toNat)
  case atStart => exact ⟨0, q, _, Nat.zero_le _, rfl, by omega, HH.out, .inl rfl, Only.refl _ _⟩
  case round =>
    clear HH
    obtain ⟨j, q1, iv, hj, rfl, hiv, hp, hq, ho⟩ := hrel
    have hok := strE_ok HE.out V n j
    have tl := strE_len e V n j
    have hsz1 := HSZ2.out
    have hwr := ho.size
    have hq1B : B ≠ q1 := by rcases hq with h | h <;> omega
    have a2 := (ho.cell (p := ⟨B, 2, none⟩) hsz1 (not_two (by show B ≠ g; omega) (by show B ≠ q; omega))).trans hx2
    have a3 := (ho.cell (p := ⟨B, 3, none⟩) hsz1 (not_two (by show B ≠ g; omega) (by show B ≠ q; omega))).trans hx3
    by_cases hlt : j < n
    · obtain ⟨k, hk⟩ : ∃ k, k = n - 1 - j := ⟨_, rfl⟩
      obtain rfl : iv = (k : Int) := by omega
      have HIV := Lib.hid hiv
      have i0 : (k : Int) ≥ 0 := by omega
      have i1 : IntKind.i64.wrap ((k : Int) - 1) = (k : Int) - 1 := IntWalk.i64_in _ (by omega)
      have eb := bit_int V k
      have em : min k 32 = k := Nat.min_eq_left (by omega)
      have ew : IntKind.u64.wrap ((strE e V n j).r / 2 : Nat) = (((strE e V n j).r / 2 : Nat) : Int) := u64_in _ (by have := hok.2.1; omega)
      have e8 : IntKind.u64.wrap (k : Int) = (k : Int) := u64_in _ (by omega)
      have HST := Lib.hid (show (strE e V n j).one (bitOf V k) = strE e V n (j + 1) by rw [hk]; rfl)
      have hu := bitOf_le V k
      generalize strE e V n j = E at *
      obtain ⟨d0, d1, d2⟩ := hok
      have hfit := enIn_fits d2 (v := E.r / 2) (Nat.div_le_self _ _)
      have hh0 : 65536 ≤ E.r / 2 := by omega
      have hh1 : E.r / 2 < 4294967296 := by omega
      have hr2 : (E.r : Int) / 2 = ((E.r / 2 : Nat) : Int) := by omega
      obtain ⟨c1, f1⟩ := rn_cells hp
      have hone : E.one (bitOf V k) = if bitOf V k = 0 then En.even ⟨E.n, E.l, E.r / 2⟩ else En.even ⟨E.n + E.r / 2, E.l, E.r / 2⟩ := rfl
      have hN1 := rn_range (h := E.r / 2) hp
      generalize E.r / 2 = h at *
      have hl9 : E.l ≤ 999999100 := by omega
      have HO1 := Lib.hid ((Only.refl (twain g q1) wr).setCell (p := ⟨g, 1, none⟩) (.inl (twain_l g q1)) (.int .u64 (h : Int)))
      have HA3 := Lib.hid (((Only.refl (fun i => i = g) wr).setCell (p := ⟨g, 1, none⟩) (.inl rfl) (.int .u64 (h : Int))).cell (p := ⟨B, 3, none⟩) (show B < wr.heap.size by omega) (show ¬ B = g by omega) |>.trans a3)
      have hs1 : (wr.setCell ⟨g, 1, none⟩ (.int .u64 (h : Int))).heap.size = wr.heap.size := by simp [World.setCell]
      have HQr := Lib.hid hq
      have HOr := Lib.hid ho
      have HONE := Lib.hid hone
      have HN1 := Lib.hid hN1
      have HF := Lib.hid hfit
      have HL9 := Lib.hid hl9
      have HH1 := Lib.hid hh1
      have HH0 := Lib.hid hh0
      have HS1 := Lib.hid hs1
      have HWR := Lib.hid hwr
      have HHK := Lib.hid hk
      clear hp hq ho hone hN1 d0 d1 d2 tl hfit hl9 hh1 hh0 hs1 hiv hk hV hlen hwr
      by_cases hu0 : bitOf V k = 0
      · rw [hu0] at eb
        have KL := Lib.hid (rlevel_any HN1.out HH0.out (by show E.l ≤ _; have := HL9.out; omega))
        have HU0 := Lib.hid hu0
        clear hu0 hu
        go_wp2_with fail
        refine KL.out.mono ?_
        rintro e' w2 ⟨rfl, q2, hN, hq2, hO2⟩
        have HN := Lib.hid hN
        have HQ := Lib.hid hq2
        have HO2 := Lib.hid (HO1.out.trans hO2)
        clear hN hq2 hO2
        go_wp2_with fail
        go_roundw
        case rel =>
          have hE : strE e V n (j + 1) = En.even ⟨E.n, E.l, h⟩ := by rw [← HST.out, HONE.out, if_pos HU0.out]
          have HSX := HS1
          have hq3 : q2 = q ∨ w1.heap.size ≤ q2 := by
            have hw := HWR.out
            rcases HQ.out with h' | h'
            · rw [h']; exact HQr.out
            · right
              have := HSX.out
              omega
          exact ⟨j + 1, q2, (k : Int) - 1, by omega, rfl, by have := HIV.out; omega, by rw [hE]; exact HN.out, hq3, (HOr.out).trans' HO2.out (fun i hi => by
            rcases hi with hi | hi
            · exact .inl (.inl hi)
            · rcases HQr.out with h' | h'
              · left; right; omega
              · right; omega)⟩
        case measure => first | (simp [intOf]; done) | (simp [intOf]; omega)
      · have hu1 : bitOf V k = 1 := by omega
        rw [hu1] at eb
        have HU0 := Lib.hid hu0
        have KADD := Lib.hid (rn_add (v := h) HN1.out HH1.out HF.out (by show E.l ≤ _; have := HL9.out; omega))
        have hg1 := rn_cells HN1.out
        obtain ⟨g1, _⟩ := hg1
        clear hu0 hu hu1
        go_wp2_with fail
        refine KADD.out.mono ?_
        rintro e' w3 ⟨rfl, hN3, hO3⟩
        have KL := Lib.hid (rlevel_any hN3 HH0.out (by show E.l ≤ _; have := HL9.out; omega))
        have hsz3 := hO3.size
        have HSX := Lib.hid (show wr.heap.size ≤ w3.heap.size by have := HS1.out; omega)
        have HO3 := Lib.hid (HO1.out.trans (hO3.mono (fun i hi => .inr hi)))
        clear hN3 hO3 hsz3
        go_wp2_with fail
        refine KL.out.mono ?_
        rintro e' w2 ⟨rfl, q2, hN, hq2, hO2⟩
        have HN := Lib.hid hN
        have HQ := Lib.hid hq2
        have HO2 := Lib.hid (HO3.out.trans hO2)
        clear hN hq2 hO2
        go_wp2_with fail
        go_roundw
        case rel =>
          have hE : strE e V n (j + 1) = En.even ⟨E.n + h, E.l, h⟩ := by rw [← HST.out, HONE.out, if_neg HU0.out]
          have hq3 : q2 = q ∨ w1.heap.size ≤ q2 := by
            have hw := HWR.out
            rcases HQ.out with h' | h'
            · rw [h']; exact HQr.out
            · right
              have := HSX.out
              omega
          exact ⟨j + 1, q2, (k : Int) - 1, by omega, rfl, by have := HIV.out; omega, by rw [hE]; exact HN.out, hq3, (HOr.out).trans' HO2.out (fun i hi => by
            rcases hi with hi | hi
            · exact .inl (.inl hi)
            · rcases HQr.out with h' | h'
              · left; right; omega
              · right; omega)⟩
        case measure => first | (simp [intOf]; done) | (simp [intOf]; omega)
    · obtain rfl : j = n := by omega
      have i0 : ¬ iv ≥ 0 := by omega
      have HP := Lib.hid hp
      have HQ := Lib.hid hq
      have HO1 := Lib.hid ho
      clear hp hq ho hok tl
      go_wp2_with fail
      first | go_end0 | refine bodyPost_ret (results_none rfl _ _ _) rfl ?_
      refine ⟨rfl, q1, HP.out, ?_, (HO.out.mono (fun i hi => hi.elim) : Only (twain g q) w w1).trans HO1.out⟩
      rcases HQ.out with h | h
      · exact .inl h
      · right
        rw [HBB.out]
        omega

end Go.Proofs.YtoencondpbkomaaGreat

/-
  The reference of LZMA codes bits straight; what it owes.
-/
namespace Go.Proofs.YtoencondpbkomaaGreat
open Go.RowKit

section
variable {w : World} {g : Nat} {G : Nat → Prop} {z : Lzs} {t : Pm En}
set_option maxHeartbeats 2000000 in
theorem zstr_enc {L k n v : Nat} (h : Zz (fun _ => False) Ke w g G z t) (ht : PmOk okE L (k + 1) t) (hn : n ≤ 26) (hv : v < 4294967296) :
    Calls Tryz.prog 59 #[.pointer (some ⟨g, 0, none⟩), .int .i64 (n : Int), .int .u32 (v : Int)] w (ZPost (fun _ => False) Ke w g G z ⟨t.ps, (encM.str t.x n v).2⟩ (.int .u32 ((encM.str t.x n v).1 : Int))) := by
  obtain ⟨Gm, Dv, Ev, p, pc, A1, c1, hz⟩ := h
  obtain ⟨eb, q0, rfl, rfl, hGm, hRn⟩ := hz.mch
  have d5 : w.cell? ⟨g, 5, none⟩ = some (.pointer (some ⟨eb, 0, none⟩)) := hz.blk.cell 5
  have hle := ht.x.2
  have K := Lib.hid (rask5n_straight (a := 0) (n := n) (V := v) hRn ht.x.1 hv (by omega) (by omega))
  have HZ := Lib.hid hz
  have HGM := Lib.hid hGm
  show Calls _ _ _ _ (ZPost (fun _ => False) Ke w g G z ⟨t.ps, strE t.x v n n⟩ (.int .u32 (v : Int)))
  clear hz hGm hRn ht hn hle hv
  generalize strE t.x v n n = e' at *
  go_enter Tryz.func59, Tryz.ntmps59
  go_wp2_with fail
  refine K.out.mono ?_
  rintro e w1 ⟨rfl, q1, hR1, hq1, hO1⟩
  have hz1 := HZ.out.mach (w' := w1) (Gm' := fun i => i = eb ∨ i = q1) (x := e') (hO1.mono (fun i hi => (HGM.out i).2 hi)) ⟨eb, q1, rfl, rfl, fun i => Iff.rfl, hR1⟩ (fun i hi => by
    rcases hi with hi | hi
    · exact .inl ((HGM.out i).2 (.inl hi))
    · rcases hq1 with h1 | h1
      · exact .inl ((HGM.out i).2 (.inr (hi.trans h1)))
      · exact .inr (by rw [hi]; exact h1)) (fun i hi => by have hl := hR1.lt; rcases hi with hi | hi <;> omega) (fun _ h => h.elim)
  have HZ1 := Lib.hid hz1
  have HO1 := Lib.hid hO1
  have HQ1 := Lib.hid hq1
  clear hz1 hO1 hR1 hq1 K d5
  go_wp2_with fail
  go_ret
  refine ⟨rfl, fun i => G i ∨ (i = eb ∨ i = q1), ⟨_, _, _, p, pc, A1, c1, HZ1.out⟩, fun i hi => ?_, HO1.out.mono (fun i hi => HZ.out.gm i ((HGM.out i).2 hi))⟩
  rcases hi with hi | hi | hi
  · exact .inl hi
  · exact .inl (HZ.out.gm i ((HGM.out i).2 (.inl hi)))
  · rcases HQ1.out with h1 | h1
    · exact .inl (HZ.out.gm i ((HGM.out i).2 (.inr (hi.trans h1))))
    · exact .inr (by rw [hi]; exact h1)
end
theorem enc_ops : ZOps encM okE (fun _ => False) Ke where
  mem := ke_mem
  okm := encM_ok
  bit := fun h ht ha hL hb => zbit_enc h ht ha hL (hb rfl)
  str := fun h ht hn hv _ => zstr_enc h ht hn hv
end Go.Proofs.YtoencondpbkomaaGreat

/-
  The reference of LZMA in memory: what its machine tells of itself; a byte more is told.
-/
namespace Go.Proofs.YtoencondpbkomaaGreat
open Go.RowKit


/-- What a machine tells of itself: whether it is bad (a coder never is); what it reads alone was there. -/
structure MachMore {σ : Type} (M : Mach σ) (R : Nat → Prop) (K : World → Value → Value → (Nat → Prop) → σ → Prop) : Prop where
  bad : ∀ {w Dv Ev G x}, K w Dv Ev G x → (Dv = .pointer none ∧ M.bad x = false) ∨ ∃ d, Dv = .pointer (some ⟨d, 0, none⟩) ∧ w.cell? ⟨d, 4, none⟩ = some (.bool (M.bad x))
  rold : ∀ {w Dv Ev G x i}, K w Dv Ev G x → R i → i < w.heap.size

theorem enc_more : MachMore encM (fun _ => False) Ke where
  bad := by
    rintro w Dv Ev G x ⟨eb, q, rfl, rfl, _⟩
    exact .inl ⟨rfl, rfl⟩
  rold := by
    rintro w Dv Ev G x i _ h
    exact h.elim

section
variable {σ : Type} {M : Mach σ} {ok : Nat → σ → Prop} {R : Nat → Prop} {K : World → Value → Value → (Nat → Prop) → σ → Prop} {w w' w0 : World} {g : Nat} {G G0 : Nat → Prop} {z : Lzs} {t : Pm σ}

/-- a block that was there, and isn't its own, stays -/
theorem ZAt.stays (h : ZAt R K w0 G0 w g z t) {b : Nat} (hb : b < w0.heap.size) (hn : ¬ G0 b) (k : Nat) : w.cell? ⟨b, k, none⟩ = w0.cell? ⟨b, k, none⟩ := by
  obtain ⟨G, _, _, hO⟩ := h
  exact World.cell?_of_block (hO.block b hb hn)
theorem ZAt.mbad (X : MachMore M R K) (h : ZAt R K w0 G0 w g z t) : ∃ Dv, w.cell? ⟨g, 4, none⟩ = some Dv ∧ ((Dv = .pointer none ∧ M.bad t.x = false) ∨ ∃ d, Dv = .pointer (some ⟨d, 0, none⟩) ∧ w.cell? ⟨d, 4, none⟩ = some (.bool (M.bad t.x))) := by
  obtain ⟨G, ⟨Gm, Dv, Ev, p, pc, A, c, h⟩, _⟩ := h
  exact ⟨Dv, h.blk.cell 4, X.bad h.mch⟩

/-- a byte more is told -/
theorem ZAt.push (Z : ZOps M ok R K) (X : MachMore M R K) (h : ZAt R K w0 G0 w g z t) (b : UInt8) :
    ∃ A c, w.cell? ⟨g, 7, none⟩ = some (.slice A z.out.length c) ∧ w.ownsRow 0 5 1 (.slice A z.out.length c) z.out.length (bv z.out) ∧
      ∀ (w1 w3 : World) (A' : Option Addr) (c' : Nat), Only (fun _ => False) w w1 → w3.ownsRow 0 5 1 (.slice A' (z.out.length + 1) c') (z.out.length + 1) (bv z.out ++ [.int .u8 (b.toNat : Int)]) → w1.grownBy w3 (Value.slice A z.out.length c).ownBlock →
        ((Value.slice A' (z.out.length + 1) c').ownBlock = (Value.slice A z.out.length c).ownBlock ∨ (Value.slice A' (z.out.length + 1) c').ownBlock = some w1.heap.size) →
        w3.cell? ⟨g, 7, none⟩ = some (.slice A z.out.length c) ∧ w3.frozen? ⟨g, 7, none⟩ = false ∧ ZAt R K w0 G0 (w3.setCell ⟨g, 7, none⟩ (.slice A' (z.out.length + 1) c')) g (z.push b) t := by
  obtain ⟨G, ⟨Gm, Dv, Ev, p, pc, A, c, h⟩, hN, hO⟩ := h
  refine ⟨A, c, h.blk.cell 7, h.out, fun w1 w3 A' c' h1 ho hg hq => ?_⟩
  have hlen : (z.push b).out.length = z.out.length + 1 := by show (z.out ++ [b]).length = _; simp
  have hz1 := h.only Z.mem h1 (fun _ _ h => h) (fun _ _ h => h)
  have hgr : Only (fun i => (Value.slice A z.out.length c).ownBlock = some i) w1 w3 := ⟨hg.os, hg.tape, hg.output, hg.size, fun i hi hn => hg.block i hi (fun e => hn e.symm)⟩
  have hrow := fun i (hi : (Value.slice A z.out.length c).ownBlock = some i) => h.go i hi
  have hB3 := hz1.blk.only hgr (fun e => (hrow g e).2.1 rfl)
  have hset : ∀ (S : Nat → Prop), S g → Only S w3 (w3.setCell ⟨g, 7, none⟩ (.slice A' (z.out.length + 1) c')) := fun S hS => (Only.refl S w3).setCell (p := ⟨g, 7, none⟩) (.inl hS) _
  have hOwn' : ∀ i, (Value.slice A' (z.out.length + 1) c').ownBlock = some i → ((Value.slice A z.out.length c).ownBlock = some i ∨ i = w1.heap.size) := by
    intro i hi
    rcases hq with e | e
    · exact .inl (e ▸ hi)
    · rw [e] at hi; injection hi with hi; exact .inr hi.symm
  have hlt : ∀ i, (Value.slice A' (z.out.length + 1) c').ownBlock = some i → i < w3.heap.size := by
    intro i hi
    rcases ho.2 with ⟨_, e⟩ | ⟨g', cap, cur, hv, _, hh, _⟩
    · cases e
    · rw [hv] at hi
      have e : g' = i := by injection hi
      subst e
      rcases Nat.lt_or_ge g' w3.heap.size with hlt | hge
      · exact hlt
      · rw [Array.getElem?_eq_none hge] at hh; cases hh
  have hs1 := h1.size
  have hs3 := hg.size
  have hng : ∀ i, (Value.slice A' (z.out.length + 1) c').ownBlock = some i → i ≠ g ∧ i ≠ p ∧ ¬ Gm i ∧ ¬ R i := by
    intro i hi
    rcases hOwn' i hi with e | rfl
    · obtain ⟨a1, a2, a3, a4⟩ := hrow i e
      exact ⟨a2, a3, a4, h.far i a1⟩
    · have b1 := h.old g h.gg
      have b2 := h.old p h.gp
      refine ⟨by omega, by omega, fun hm => ?_, fun hr => ?_⟩
      · have := h.old _ (h.gm _ hm); omega
      · have := X.rold h.mch hr; omega
  refine ⟨hB3.cell 7, hB3.free 7, fun i => G i ∨ (Value.slice A' (z.out.length + 1) c').ownBlock = some i, ⟨Gm, Dv, Ev, p, pc, A', c', ?_⟩, ?_, ?_⟩
  · refine ⟨?_, (hz1.row.only hgr (fun e => (hrow p e).2.2.1 rfl)).only (hset (fun i => i = g) rfl) h.pg, ?_, Z.mem.only (Z.mem.only hz1.mch hgr (fun i hi e => (hrow i e).2.2.2 hi) (fun i hi e => h.far i (hrow i e).1 hi)) (hset (fun i => i = g) rfl) (fun i hi e => h.mg (e ▸ hi)) (fun i hi e => h.far g h.gg (e ▸ hi)),
      .inl h.gg, .inl h.gp, fun i hi => .inl (h.gm i hi), ?_, h.pg, h.mg, h.mp, ?_, ?_⟩
    · have := hB3.put 7 (.slice A' (z.out.length + 1) c')
      show Blk _ g _ (zCells (z.push b) Dv Ev p t.ps.length pc A' (z.push b).out.length c')
      rw [hlen]
      exact this
    · rw [hlen, show bv (z.push b).out = bv z.out ++ [.int .u8 (b.toNat : Int)] from bv_append _ _]
      exact own_only' ho (hset (fun i => i = g) rfl) (fun i hi => (hng i hi).1)
    · intro i hi
      rw [hlen] at hi
      exact ⟨.inr hi, (hng i hi).1, (hng i hi).2.1, (hng i hi).2.2.1⟩
    · rintro i (hi | hi)
      · have := h.old i hi
        have h5 : i < w3.heap.size := by omega
        simpa [World.setCell] using h5
      · have := hlt i hi
        simpa [World.setCell] using this
    · rintro i (hi | hi)
      · exact h.far i hi
      · exact (hng i hi).2.2.2
  · rintro i (hi | hi)
    · exact hN i hi
    · rcases hOwn' i hi with e | rfl
      · exact hN i (hrow i e).1
      · have := hO.size
        exact .inr (by omega)
  · have e1 : Only G w w3 := (h1.mono (fun _ h => h.elim)).trans (hgr.mono (fun i hi => (hrow i hi).1))
    exact (hO.trans' (e1.trans (hset G h.gg)) hN)
end
end Go.Proofs.YtoencondpbkomaaGreat
