/-
  The program's coder of shares: low is more, and a carry goes through its bytes.
-/
import Derived.Test.YtkjhdpfomofggaaPwGive
namespace Go.Proofs.Ytkjhdpfomofggaa
open Go.RowKit

theorem lt_by {N P M l : Nat} (h : N * M + l < P * M) : N < P := Nat.lt_of_mul_lt_mul_right (a := M) (by omega)

theorem u8_next (b z : Nat) (h : z = (1 + b) % 256) : IntKind.u8.wrap ((b : Int) + 1) = (z : Int) := by
  simp [IntKind.wrap, IntKind.bits, IntKind.signed]; omega

/-- What is behind a carry: behind a definition, so that no walk looks into it. -/
def RaisePost (w : World) (g q L r N : Nat) (x : Ending) (w' : World) : Prop :=
  x = .returned (.tuple #[]) ∧ ∃ cs lo, Pw w' g q cs lo r ∧ lo < 4294967296 ∧ be cs * 4294967296 + lo = N ∧ cs.length = L ∧ Only (duo g q) w w'

/-- on the way of a carry -/
def CarRel (w wr : World) (g q L lo r c N : Nat) (cv i : Value) : Prop :=
  ∃ (u x : Nat) (iv : Int) (cur : List UInt8), u ≤ L ∧ i = .int .i64 iv ∧ iv + 1 = (u : Int) ∧ cv = .int .u32 (x : Int) ∧ x ≤ 1 ∧ cur.length = L ∧ be cur + x * 256 ^ (L - u) = N ∧ Blk wr g 67 (pwCells lo r q L c) ∧ Byt wr q c cur ∧ Only (duo g q) w wr

set_option maxHeartbeats 4000000 in
theorem raise_any {w : World} {g q lo r v : Nat} {gs : List UInt8} (h : Pw w g q gs lo r) (hlo : lo < 4294967296) (hv : v < 4294967296) (hfit : be gs * 4294967296 + lo + v < 256 ^ (gs.length + 4)) (hlen : gs.length ≤ 1000000000) :
    Calls Try.prog 40 #[.pointer (some ⟨g, 0, none⟩), .int .u32 (v : Int)] w (RaisePost w g q gs.length r (be gs * 4294967296 + lo + v)) := by
  obtain ⟨lo', hlo'⟩ : ∃ l, l = (lo + v) % 4294967296 := ⟨_, rfl⟩
  obtain ⟨cy, hcy⟩ : ∃ l, l = (lo + v) / 4294967296 := ⟨_, rfl⟩
  obtain ⟨N, hN⟩ : ∃ N, N = be gs + cy := ⟨_, rfl⟩
  have hNN : be gs * 4294967296 + lo + v = N * 4294967296 + lo' := by rw [hN, Nat.add_mul]; omega
  rw [hNN] at hfit ⊢
  have hf2 : N < 256 ^ gs.length := by
    rw [Nat.pow_add, show (256 : Nat) ^ 4 = 4294967296 from rfl] at hfit
    exact lt_by hfit
  obtain ⟨c, hB, hY, hne⟩ := h
  have K := Lib.hid (add32_any hlo hv w)
  rw [← hlo', ← hcy] at K
  have c0 : w.cell? ⟨g, 0, none⟩ = some (.int .u32 (lo : Int)) := hB.cell 0
  have f0 : w.frozen? ⟨g, 0, none⟩ = false := hB.free 0
  have hB1 := hB.put 0 (.int .u32 (lo' : Int))
  have hO1 := (Only.refl (fun j => j = g) w).setCell (p := ⟨g, 0, none⟩) (.inl rfl) (.int .u32 (lo' : Int))
  have HC1 := Lib.hid (show cy ≤ 1 by omega)
  have HLO := Lib.hid (show lo' < 4294967296 by omega)
  have HN := Lib.hid hN
  have HF := Lib.hid hf2
  generalize hL : gs.length = L at *
  have HL := Lib.hid hL
  have HB := Lib.hid hB1
  have HY := Lib.hid (hY.only hO1 hne)
  have HO := Lib.hid (hO1.mono (S' := duo g q) (fun i hi => .inl hi))
  have e0 : IntKind.i64.wrap ((L : Int) - 1) = (L : Int) - 1 := IntWalk.i64_in _ (by omega)
  have k2 : (w.setCell ⟨g, 0, none⟩ (.int .u32 (lo' : Int))).cell? ⟨g, 2, none⟩ = some (.slice (some ⟨q, 0, none⟩) L c) := hB1.cell 2
  clear hB hY hB1 hO1 hNN hfit hf2 hN hL hcy hlo' hlo hv
  go_enter Try.func40, Try.ntmps40
  go_wp2_with fail
  refine K.out.mono ?_
  rintro e w1 ⟨rfl, rfl⟩
  clear K
  go_wp2_with fail
  generalize hw1 : w.setCell ⟨g, 0, none⟩ (.int .u32 (lo' : Int)) = w1 at *
  go_loopw [5, 6] (fun cv i wr => CarRel w wr g q L lo' r c N cv i) (fun _ i _ => (intOf i + 1).toNat)
  case atStart => exact ⟨L, cy, _, gs, Nat.le_refl _, rfl, by omega, rfl, HC1.out, HL.out, by rw [Nat.sub_self, Nat.pow_zero, Nat.mul_one, HN.out], HB.out, HY.out, HO.out⟩
  case round =>
    clear HB HY HO k2 c0 f0
    obtain ⟨u, x, iv, cur, hu, rfl, hiv, rfl, hx, hcl, hsum, hB, hY, hO⟩ := hrel
    have HBr := Lib.hid hB
    have HYr := Lib.hid hY
    have HOr := Lib.hid hO
    have HS := Lib.hid hsum
    have HCL := Lib.hid hcl
    have c2 : wr.cell? ⟨g, 2, none⟩ = some (.slice (some ⟨q, 0, none⟩) L c) := hB.cell 2
    by_cases hx1 : x = 1
    · subst hx1
      have hu0 : 0 < u := by
        rcases Nat.eq_zero_or_pos u with h0 | h0
        · have h1 := HF.out
          rw [← hsum, h0, Nat.sub_zero, Nat.one_mul] at h1
          omega
        · exact h0
      obtain ⟨k, rfl⟩ : ∃ k, u = k + 1 := ⟨u - 1, by omega⟩
      obtain rfl : iv = (k : Int) := by omega
      have hkl : k < cur.length := by omega
      have cx := hY.cell hkl
      have fx := hY.free k
      have hbl := (cur.getD k 0).toNat_lt
      obtain ⟨y, hy⟩ : ∃ y, y = 1 + (cur.getD k 0).toNat := ⟨_, rfl⟩
      obtain ⟨z, hz⟩ : ∃ z, z = y % 256 := ⟨_, rfl⟩
      obtain ⟨x', hx'⟩ : ∃ x', x' = y / 256 := ⟨_, rfl⟩
      have hstep := add_step (N := N) hz hx' hy hkl rfl (by rw [hcl, show L - 1 - k = L - (k + 1) by omega]; exact hsum)
      rw [hcl, ← Nat.pow_succ, show (L - 1 - k).succ = L - k by omega] at hstep
      have HST := Lib.hid hstep
      have e1 : IntKind.u8.wrap (((cur.getD k 0).toNat : Int) + 1) = (z : Int) := u8_next _ _ (by rw [hz, hy])
      have e6 : IntKind.i64.wrap ((k : Int) - 1) = (k : Int) - 1 := IntWalk.i64_in _ (by omega)
      have HZU := Lib.hid (show ((UInt8.ofNat z).toNat : Int) = (z : Int) by have : (UInt8.ofNat z).toNat = z := by { simp; omega }; rw [this])
      have i0 : (0 : Int) ≤ (k : Int) := by omega
      have i1 : (k : Int) < (L : Int) := by omega
      have hzx : (z = 0 ∧ x' = 1) ∨ (z ≠ 0 ∧ x' = 0) := by omega
      have HU := Lib.hid hu
      have hY2 := hY.put k (UInt8.ofNat z)
      rw [HZU.out] at hY2
      have HB2 := Lib.hid (hB.far (p := ⟨q, k, none⟩) (fun e => hne e.symm) (.int .u8 (z : Int)))
      have k2 : (wr.setCell ⟨q, k, none⟩ (.int .u8 (z : Int))).cell? ⟨g, 2, none⟩ = some (.slice (some ⟨q, 0, none⟩) L c) := (hB.far (p := ⟨q, k, none⟩) (fun e => hne e.symm) (.int .u8 (z : Int))).cell 2
      have kx : (wr.setCell ⟨q, k, none⟩ (.int .u8 (z : Int))).cell? ⟨q, k, none⟩ = some (.int .u8 (z : Int)) := by
        have := hY2.cell (i := k) (by rw [List.length_set]; omega)
        have hg : (cur.set k (UInt8.ofNat z)).getD k 0 = UInt8.ofNat z := by simp [List.getD, hkl]
        rw [this, hg, HZU.out]
      have HY2 := Lib.hid hY2
      have HO2 := Lib.hid (hO.setCell (p := ⟨q, k, none⟩) (.inl (duo_r g q)) (.int .u8 (z : Int)))
      generalize (cur.getD k 0).toNat = bb at *
      clear hB hY hO hsum hstep hy hx' hbl hcl hkl hiv hY2 hz hx HYr HBr HOr HS hu
      rcases hzx with ⟨rfl, rfl⟩ | ⟨hz0, rfl⟩
      · go_wp2_with fail
        go_roundw
        case rel => exact ⟨k, 1, (k : Int) - 1, cur.set k (UInt8.ofNat 0), by have := HU.out; omega, rfl, by omega, rfl, by omega, by rw [List.length_set]; exact HCL.out, HST.out, HB2.out, HY2.out, HO2.out⟩
        case measure => first | (simp [intOf]; done) | (simp [intOf]; omega)
      · have hz1 : ((z : Int) != 0) = true := by simp [hz0]
        have hz2 : ¬ (z : Int) = 0 := by omega
        go_wp2_with fail
        go_roundw
        case rel => exact ⟨k, 0, (k : Int) - 1, cur.set k (UInt8.ofNat z), by have := HU.out; omega, rfl, by omega, rfl, by omega, by rw [List.length_set]; exact HCL.out, HST.out, HB2.out, HY2.out, HO2.out⟩
        case measure => first | (simp [intOf]; done) | (simp [intOf]; omega)
    · obtain rfl : x = 0 := by omega
      rw [Nat.zero_mul, Nat.add_zero] at hsum
      have HS2 := Lib.hid hsum
      clear hsum hB hY hO HS hx1 hcl hu hiv hx
      go_wp2_with fail
      first | go_end0 | refine bodyPost_ret (results_none rfl _ _ _) rfl ?_
      refine ⟨rfl, cur, lo', ⟨c, by rw [HCL.out]; exact HBr.out, HYr.out, hne⟩, HLO.out, by rw [HS2.out], HCL.out, HOr.out⟩
end Go.Proofs.Ytkjhdpfomofggaa
