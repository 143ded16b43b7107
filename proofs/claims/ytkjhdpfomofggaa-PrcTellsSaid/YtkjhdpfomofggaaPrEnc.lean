/-
  The reference's coder of shares: each call a contract.
-/
import Derived.Test.YtkjhdpfomofggaaByt
import Derived.Test.YtkjhdpfomofggaaRcPure
import Derived.Test.YtkjhdpfomofggaaPrPure
import Derived.LoopN
namespace Go.Proofs.Ytkjhdpfomofggaa
open Go.RowKit

def rnCells (q L c r : Nat) : Array Value := #[.slice (some ⟨q, 0, none⟩) L c, .int .u64 (r : Int)]

/-- Block g is the reference's coder, its bytes at block q; its state is e. -/
def Rn (w : World) (g q : Nat) (e : En) : Prop :=
  ∃ c bs, Blk w g 50 (rnCells q bs.length c e.r) ∧ Byt w q c bs ∧ be bs = e.n ∧ bs.length = e.l ∧ q ≠ g
theorem Rn.lt {w : World} {g q : Nat} {e : En} (h : Rn w g q e) : g < w.heap.size ∧ q < w.heap.size := by
  obtain ⟨c, bs, hB, hb, _⟩ := h
  exact ⟨hB.lt, hb.lt⟩
theorem Rn.only {S : Nat → Prop} {w w' : World} {g q : Nat} {e : En} (h : Rn w g q e) (hb : Only S w w') (hg : ¬ S g) (hq : ¬ S q) : Rn w' g q e := by
  obtain ⟨c, bs, hB, hy, r⟩ := h
  exact ⟨c, bs, hB.only hb hg, hy.only hb hq, r⟩
theorem Rn.drewN {w : World} {g q : Nat} {e : En} (h : Rn w g q e) (n : Nat) : Rn (w.drewN n) g q e := h

theorem add_step {cur : List UInt8} {k x y x' z P N : Nat} (hz : z = y % 256) (hx' : x' = y / 256) (hy : y = x + (cur.getD k 0).toNat) (hk : k < cur.length) (hP : P = 256 ^ (cur.length - 1 - k)) (h : be cur + x * P = N) :
    be (cur.set k (UInt8.ofNat z)) + x' * (P * 256) = N := by
  have hs := be_set cur k (UInt8.ofNat z) hk
  rw [← hP] at hs
  have ez : (UInt8.ofNat z).toNat = z := by simp; omega
  rw [ez] at hs
  have e1 : x' * (P * 256) = 256 * x' * P := by rw [Nat.mul_comm P, ← Nat.mul_assoc, Nat.mul_comm x']
  have e2 : (256 * x' + z) * P = (x + (cur.getD k 0).toNat) * P := by rw [← hy]; congr 1; omega
  rw [Nat.add_mul, Nat.add_mul] at e2
  omega

/-- What an addition leaves: behind a definition, so that no walk looks into it. -/
def AddPost (w : World) (g q c r N L : Nat) (e : Ending) (w' : World) : Prop :=
  e = .returned (.tuple #[]) ∧ ∃ cs, Blk w' g 50 (rnCells q L c r) ∧ Byt w' q c cs ∧ be cs = N ∧ cs.length = L ∧ Only (fun i => i = q) w w'

set_option maxHeartbeats 4000000 in
theorem add_any {w : World} {g q c r v N : Nat} {bs : List UInt8} (hB : Blk w g 50 (rnCells q bs.length c r)) (hY : Byt w q c bs) (hqg : q ≠ g) (hv : v < 4294967296) (hN : N = be bs + v) (hfit : N < 256 ^ bs.length) (hlen : bs.length ≤ 1000000000) :
    Calls Try.prog 38 #[.pointer (some ⟨g, 0, none⟩), .int .u64 (v : Int)] w (AddPost w g q c r N bs.length) := by
  generalize hL : bs.length = L at *
  have HB := Lib.hid hB
  have HY := Lib.hid hY
  have HN := Lib.hid hN
  have HF := Lib.hid hfit
  have HL := Lib.hid hL
  have c0 : w.cell? ⟨g, 0, none⟩ = some (.slice (some ⟨q, 0, none⟩) L c) := hB.cell 0
  have e0 : IntKind.i64.wrap ((L : Int) - 1) = (L : Int) - 1 := IntWalk.i64_in _ (by omega)
  clear hB hY hN hfit hL
  go_enter Try.func38, Try.ntmps38
  go_wp2_with fail
  go_loopw [1, 4] (fun vv i wr => ∃ (u x : Nat) (iv : Int) (cur : List UInt8), u ≤ L ∧ i = .int .i64 iv ∧ iv + 1 = (u : Int) ∧ vv = .int .u64 (x : Int) ∧ x < 4294967296 ∧ cur.length = L ∧ be cur + x * 256 ^ (L - u) = N ∧ Blk wr g 50 (rnCells q L c r) ∧ Byt wr q c cur ∧ Only (fun i => i = q) w wr) (fun _ i _ => (intOf i + 1).toNat)
  case atStart => exact ⟨L, v, _, bs, Nat.le_refl _, rfl, by omega, rfl, hv, HL.out, by rw [Nat.sub_self, Nat.pow_zero, Nat.mul_one, HN.out], HB.out, HY.out, Only.refl _ _⟩
  case round =>
    clear HB HY c0
    obtain ⟨u, x, iv, cur, hu, rfl, hiv, rfl, hx, hcl, hsum, hB, hY, hO⟩ := hrel
    have HBr := Lib.hid hB
    have HYr := Lib.hid hY
    have HOr := Lib.hid hO
    have HS := Lib.hid hsum
    have HCL := Lib.hid hcl
    have c0 : wr.cell? ⟨g, 0, none⟩ = some (.slice (some ⟨q, 0, none⟩) L c) := hB.cell 0
    by_cases hgo : 0 < u ∧ 0 < x
    · obtain ⟨k, rfl⟩ : ∃ k, u = k + 1 := ⟨u - 1, by omega⟩
      obtain rfl : iv = (k : Int) := by omega
      have hkl : k < cur.length := by omega
      have cx := hY.cell hkl
      have fx := hY.free k
      have hbl := (cur.getD k 0).toNat_lt
      obtain ⟨y, hy⟩ : ∃ y, y = x + (cur.getD k 0).toNat := ⟨_, rfl⟩
      obtain ⟨z, hz⟩ : ∃ z, z = y % 256 := ⟨_, rfl⟩
      obtain ⟨x', hx'⟩ : ∃ x', x' = y / 256 := ⟨_, rfl⟩
      have hstep := add_step (N := N) hz hx' hy hkl rfl (by rw [hcl, show L - 1 - k = L - (k + 1) by omega]; exact hsum)
      rw [hcl, ← Nat.pow_succ, show (L - 1 - k).succ = L - k by omega] at hstep
      have HST := Lib.hid hstep
      have e1 : IntKind.u64.wrap ((x : Int) + ((cur.getD k 0).toNat : Int)) = (y : Int) := by rw [← Int.natCast_add, ← hy]; exact u64_in _ (by omega)
      have e2 : IntKind.u64.wrap ((cur.getD k 0).toNat : Int) = ((cur.getD k 0).toNat : Int) := u64_in _ (by omega)
      have e3 : (y : Int).tmod 256 = (z : Int) := by rw [Int.tmod_eq_emod_of_nonneg (by omega)]; omega
      have e4 : IntKind.u8.wrap (z : Int) = (z : Int) := by simp [IntKind.wrap, IntKind.bits, IntKind.signed]; omega
      have e5 : (y : Int) / 256 = (x' : Int) := by omega
      have e7 : IntKind.u64.wrap (x' : Int) = (x' : Int) := u64_in _ (by omega)
      have e6 : IntKind.i64.wrap ((k : Int) - 1) = (k : Int) - 1 := IntWalk.i64_in _ (by omega)
      have HZU := Lib.hid (show ((UInt8.ofNat z).toNat : Int) = (z : Int) by have : (UInt8.ofNat z).toNat = z := by { simp; omega }; rw [this])
      have hx2 : x' < 4294967296 := by omega
      have i0 : (k : Int) ≥ 0 := by omega
      have i1 : (k : Int) < (L : Int) := by omega
      have i2 : (x : Int) > 0 := by omega
      have HX2 := Lib.hid hx2
      generalize (cur.getD k 0).toNat = bb at *
      clear hB hY hO hsum hstep hz hx' hy hbl hx2 hcl hkl hiv
      go_wp2_with fail
      go_roundw
      case rel =>
        have hY2 := HYr.out.put k (UInt8.ofNat z)
        rw [HZU.out] at hY2
        exact ⟨k, x', (k : Int) - 1, cur.set k (UInt8.ofNat z), by omega, rfl, by omega, rfl, HX2.out, by rw [List.length_set]; exact HCL.out, HST.out, HBr.out.far (fun e => hqg e.symm) _, hY2, HOr.out.setCell (p := ⟨q, k, none⟩) (.inl rfl) _⟩
      case measure => first | (simp [intOf]; done) | (simp [intOf]; omega)
    · have hx0 : x = 0 := by
        rcases Nat.eq_zero_or_pos x with h | h
        · exact h
        · have hu0 : u = 0 := by omega
          subst hu0
          have h1 := HF.out
          rw [← hsum, Nat.sub_zero] at h1
          have := Nat.mul_le_mul_right (256 ^ L) h
          omega
      subst hx0
      rw [Nat.zero_mul, Nat.add_zero] at hsum
      have HS2 := Lib.hid hsum
      clear hsum hB hY hO HS hgo hcl
      by_cases hu0 : 0 < u
      · have i0 : iv ≥ 0 := by omega
        go_wp2_with fail
        first | go_end0 | refine bodyPost_ret (results_none rfl _ _ _) rfl ?_
        exact ⟨rfl, cur, HBr.out, HYr.out, HS2.out, HCL.out, HOr.out⟩
      · have i0 : ¬ iv ≥ 0 := by omega
        go_wp2_with fail
        first | go_end0 | refine bodyPost_ret (results_none rfl _ _ _) rfl ?_
        exact ⟨rfl, cur, HBr.out, HYr.out, HS2.out, HCL.out, HOr.out⟩
end Go.Proofs.Ytkjhdpfomofggaa
