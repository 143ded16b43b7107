/-
  The program's coder of shares: a share is put; how many bytes; finished. It owes what the laws ask.
-/
import Derived.Test.YtkjhdpfomofggaaPwPut
namespace Go.Proofs.Ytkjhdpfomofggaa
open Go.RowKit

section
variable {w : World} {g q : Nat} {e : En}

set_option maxHeartbeats 4000000 in
theorem wput_part {s z t : Nat} (h : Pe w g q e) (he : EnOk e) (hz : 1 ≤ z) (hs : s + z ≤ t) (ht : t ≤ 1048576) (hlen : e.l ≤ 999999900) :
    Calls Try.prog 24 #[.pointer (some ⟨g, 0, none⟩), .agg #[.int .i64 0, .int .u32 (s : Int), .int .u32 (z : Int), .int .u32 (t : Int)]] w (PePost w g q (putE e 0 s z t)) := by
  have hO0 := (Only.refl (fun _ => False) w).alloc (.cells #[.int .i64 0, .int .u32 (s : Int), .int .u32 (z : Int), .int .u32 (t : Int)] 33)
  have hX : Blk (w.alloc (.cells #[.int .i64 0, .int .u32 (s : Int), .int .u32 (z : Int), .int .u32 (t : Int)] 33)) w.heap.size 33 #[.int .i64 0, .int .u32 (s : Int), .int .u32 (z : Int), .int .u32 (t : Int)] := Blk.fresh w _ _
  have K := Lib.hid (putPart_any (h.only hO0 (fun h => h) (fun h => h)) he hz hs ht hlen)
  have HO0 := Lib.hid hO0
  have x0 : (w.alloc (.cells #[.int .i64 0, .int .u32 (s : Int), .int .u32 (z : Int), .int .u32 (t : Int)] 33)).cell? ⟨w.heap.size, 0, none⟩ = some (.int .i64 0) := hX.cell 0
  have x1 : (w.alloc (.cells #[.int .i64 0, .int .u32 (s : Int), .int .u32 (z : Int), .int .u32 (t : Int)] 33)).cell? ⟨w.heap.size, 1, none⟩ = some (.int .u32 (s : Int)) := hX.cell 1
  have x2 : (w.alloc (.cells #[.int .i64 0, .int .u32 (s : Int), .int .u32 (z : Int), .int .u32 (t : Int)] 33)).cell? ⟨w.heap.size, 2, none⟩ = some (.int .u32 (z : Int)) := hX.cell 2
  have x3 : (w.alloc (.cells #[.int .i64 0, .int .u32 (s : Int), .int .u32 (z : Int), .int .u32 (t : Int)] 33)).cell? ⟨w.heap.size, 3, none⟩ = some (.int .u32 (t : Int)) := hX.cell 3
  have i1 : (t : Int) ≤ 1048576 := by omega
  have i2 : (s : Int) < (t : Int) := by omega
  have i3 : (z : Int) ≥ 1 := by omega
  have e1 : IntKind.u32.wrap ((t : Int) - (s : Int)) = (t : Int) - (s : Int) := u32_is _ (by omega) (by omega)
  have i4 : (z : Int) ≤ (t : Int) - (s : Int) := by omega
  clear h he hz hs ht hlen hO0 hX
  go_enter Try.func24, Try.ntmps24
  go_wp2_with fail
  refine K.out.mono ?_
  intro x w3 h3
  obtain ⟨rfl, q', hP, hq, hO⟩ := h3
  have HP := Lib.hid hP
  have HQ := Lib.hid (show q' = q ∨ w.heap.size ≤ q' by have := HO0.out.size; omega)
  have HO := Lib.hid ((HO0.out.mono (S' := duo g q) (fun _ h => h.elim)).trans hO)
  clear hP hq hO K HO0 x0 x1 x2 x3
  go_wp2_with fail
  first | go_end0 | refine bodyPost_ret (results_none rfl _ _ _) rfl ?_
  exact ⟨rfl, q', HP.out, HQ.out, HO.out⟩

set_option maxHeartbeats 4000000 in
theorem wput_bit {s z t : Nat} (h : Pe w g q e) (he : EnOk e) (hs : s ≤ 1) (ht : t ≤ 16) (hz : 1 ≤ z) (hz2 : z < 2 ^ t) (hlen : e.l ≤ 999999900) :
    Calls Try.prog 24 #[.pointer (some ⟨g, 0, none⟩), .agg #[.int .i64 1, .int .u32 (s : Int), .int .u32 (z : Int), .int .u32 (t : Int)]] w (PePost w g q (putE e 1 s z t)) := by
  have hO0 := (Only.refl (fun _ => False) w).alloc (.cells #[.int .i64 1, .int .u32 (s : Int), .int .u32 (z : Int), .int .u32 (t : Int)] 33)
  have hX : Blk (w.alloc (.cells #[.int .i64 1, .int .u32 (s : Int), .int .u32 (z : Int), .int .u32 (t : Int)] 33)) w.heap.size 33 #[.int .i64 1, .int .u32 (s : Int), .int .u32 (z : Int), .int .u32 (t : Int)] := Blk.fresh w _ _
  have K := Lib.hid (putBit_any (h.only hO0 (fun h => h) (fun h => h)) he hs ht hz hz2 hlen)
  have HO0 := Lib.hid hO0
  have x0 : (w.alloc (.cells #[.int .i64 1, .int .u32 (s : Int), .int .u32 (z : Int), .int .u32 (t : Int)] 33)).cell? ⟨w.heap.size, 0, none⟩ = some (.int .i64 1) := hX.cell 0
  have x1 : (w.alloc (.cells #[.int .i64 1, .int .u32 (s : Int), .int .u32 (z : Int), .int .u32 (t : Int)] 33)).cell? ⟨w.heap.size, 1, none⟩ = some (.int .u32 (s : Int)) := hX.cell 1
  have x2 : (w.alloc (.cells #[.int .i64 1, .int .u32 (s : Int), .int .u32 (z : Int), .int .u32 (t : Int)] 33)).cell? ⟨w.heap.size, 2, none⟩ = some (.int .u32 (z : Int)) := hX.cell 2
  have x3 : (w.alloc (.cells #[.int .i64 1, .int .u32 (s : Int), .int .u32 (z : Int), .int .u32 (t : Int)] 33)).cell? ⟨w.heap.size, 3, none⟩ = some (.int .u32 (t : Int)) := hX.cell 3
  have hp16 : 2 ^ t ≤ 2 ^ 16 := Nat.pow_le_pow_right (by omega) ht
  obtain ⟨P, hP⟩ : ∃ P, P = 2 ^ t := ⟨_, rfl⟩
  rw [← hP] at hp16
  have hPi : ((2 : Int) ^ t) = (P : Int) := by rw [cast_pow2, hP]
  have hzP : z < P := by rw [hP]; exact hz2
  have i1 : (t : Int) ≤ 16 := by omega
  have i2 : (s : Int) ≤ 1 := by omega
  have i3 : (z : Int) ≥ 1 := by omega
  have m1 : min t 32 = t := by omega
  have e1 : IntKind.u32.wrap (P : Int) = (P : Int) := u32_is _ (by omega) (by omega)
  have e2 : IntKind.u32.wrap (1 * (P : Int)) = (P : Int) := by rw [Int.one_mul]; exact e1
  have i4 : (z : Int) < (P : Int) := by omega
  clear h he hz hz2 hs ht hlen hO0 hX hp16 hP hzP
  go_enter Try.func24, Try.ntmps24
  go_wp2_with fail
  refine K.out.mono ?_
  intro x w3 h3
  obtain ⟨rfl, q', hP, hq, hO⟩ := h3
  have HP := Lib.hid hP
  have HQ := Lib.hid (show q' = q ∨ w.heap.size ≤ q' by have := HO0.out.size; omega)
  have HO := Lib.hid ((HO0.out.mono (S' := duo g q) (fun _ h => h.elim)).trans hO)
  clear hP hq hO K HO0 x0 x1 x2 x3
  go_wp2_with fail
  first | go_end0 | refine bodyPost_ret (results_none rfl _ _ _) rfl ?_
  exact ⟨rfl, q', HP.out, HQ.out, HO.out⟩

set_option maxHeartbeats 1000000 in
theorem wcount_any (h : Pe w g q e) (hlen : e.l ≤ 1000000000) :
    Calls Try.prog 26 #[.pointer (some ⟨g, 0, none⟩)] w fun e' w' => e' = .returned (.int .i64 (e.l : Int)) ∧ ∃ d, w.drewN d = w' := by
  obtain ⟨gs, lo, ⟨c, hB, _⟩, _, _, hl⟩ := h
  have c2 : w.cell? ⟨g, 2, none⟩ = some (.slice (some ⟨q, 0, none⟩) gs.length c) := hB.cell 2
  have e1 : IntKind.i64.wrap ((gs.length : Int) + 4) = (e.l : Int) := by rw [show (gs.length : Int) + 4 = (e.l : Int) by omega]; exact IntWalk.i64_in _ (by omega)
  clear hB hl hlen
  generalize gs.length = n at *
  generalize e.l = l at *
  go_enter Try.func26, Try.ntmps26
  go_wp2_with fail
  go_ret
  exact ⟨rfl, 0, rfl⟩

/-- What a finish leaves: the coder's bytes, and a coder that begins. -/
def FinW (w : World) (g q : Nat) (e : En) (x : Ending) (w' : World) : Prop :=
  ∃ q' m bs q2, x = .returned (.slice (some ⟨q', 0, none⟩) bs.length m) ∧ Sl w' (some ⟨q', 0, none⟩) bs.length (bv bs) ∧ be bs = e.n ∧ bs.length = e.l ∧ Pe w' g q2 En.new ∧ w.heap.size ≤ q2 ∧ Only (duo g q) w w'

theorem fin_num {b lo n : Nat} (h : b * 4294967296 + lo = n * 256 ^ 4) (hlo : lo < 4294967296) : b = n := by omega

set_option maxHeartbeats 4000000 in
theorem wfinish_any (h : Pe w g q e) (hlen : e.l ≤ 999999990) :
    Calls Try.prog 28 #[.pointer (some ⟨g, 0, none⟩)] w (FinW w g q e) := by
  have HLEN := Lib.hid hlen
  have HP := Lib.hid h
  clear hlen h
  go_enter Try.func28, Try.ntmps28
  go_wp2_with fail
  go_loopw [4] (fun i wr => ∃ (k : Nat) (q' : Nat), k ≤ 4 ∧ i = .int .i64 (k : Int) ∧ Pe wr g q' ⟨e.n * 256 ^ k, e.l + k, e.r⟩ ∧ (q' = q ∨ w.heap.size ≤ q') ∧ Only (duo g q) w wr) (fun i _ => 4 - (intOf i).toNat)
  case atStart => exact ⟨0, q, Nat.zero_le _, rfl, by rw [Nat.pow_zero, Nat.mul_one]; exact HP.out, .inl rfl, Only.refl _ _⟩
  case round =>
    clear HP
    obtain ⟨k, q', hk, rfl, hP, hq, hO⟩ := hrel
    have HQ := Lib.hid hq
    have HO := Lib.hid hO
    by_cases hlt : k < 4
    · have K := Lib.hid (egive_any hP (by have := HLEN.out; show e.l + k ≤ _; omega))
      have HLT := Lib.hid hP.lt
      have hlt' : (k : Int) < 4 := by omega
      clear hP hq hO
      go_wp2_with fail
      refine K.out.mono ?_
      rintro x w3 ⟨rfl, q2, hP2, hq2, hO2⟩
      have HP2 := Lib.hid hP2
      have HQ2 := Lib.hid (show q2 = q ∨ w.heap.size ≤ q2 by have := HQ.out; have := HO.out.size; omega)
      have HO2 := Lib.hid (HO.out.trans' hO2 (fun i hi => by
        have := HQ.out
        rcases hi with hi | hi
        · exact .inl (.inl hi)
        · rcases this with h | h
          · exact .inl (.inr (hi.trans h))
          · exact .inr (by omega)))
      clear hP2 hq2 hO2 HQ HO K HLT
      go_wp2_with fail
      go_roundw
      case rel => exact ⟨k + 1, q2, by omega, by go_num, by rw [Nat.pow_succ, ← Nat.mul_assoc]; exact HP2.out, HQ2.out, HO2.out⟩
      case measure => simp [intOf]; omega
    · obtain rfl : k = 4 := by omega
      have hirr : ¬ ((4 : Nat) : Int) < 4 := by omega
      have HLT := Lib.hid hP.lt
      obtain ⟨gs, lo, ⟨c, hB, hY, hne⟩, hlo, hn, hl⟩ := hP
      have c2 : wr.cell? ⟨g, 2, none⟩ = some (.slice (some ⟨q', 0, none⟩) gs.length c) := hB.cell 2
      have HB := Lib.hid hB
      have HY := Lib.hid hY
      have HNE := Lib.hid hne
      have HNUM := Lib.hid (show be gs = e.n ∧ gs.length = e.l from ⟨fin_num hn hlo, by dsimp only at hl; omega⟩)
      have K := Lib.hid (wnew_any wr)
      have HSW := Lib.hid hO.size
      clear hB hY hne hq hO hk hlt hlo hn hl
      go_wp2_with fail
      refine K.out.mono ?_
      rintro x w3 ⟨rfl, hN, hbe⟩
      obtain ⟨c3, hB3, hY3, hne3⟩ := hN
      have hO3 : Only (fun _ => False) wr w3 := Only.of_below hbe
      have hBg : Blk w3 g 67 _ := HB.out.only hO3 (fun h => h)
      have n0 : w3.cell? ⟨wr.heap.size + 1, 0, none⟩ = some (.int .u32 0) := hB3.cell 0
      have n1 : w3.cell? ⟨wr.heap.size + 1, 1, none⟩ = some (.int .u32 4294967295) := hB3.cell 1
      have n2 : w3.cell? ⟨wr.heap.size + 1, 2, none⟩ = some (.slice (some ⟨wr.heap.size, 0, none⟩) 1 c3) := hB3.cell 2
      obtain ⟨g0, g1, g2⟩ : w3.cell? ⟨g, 0, none⟩ = some (.int .u32 (lo : Int)) ∧ w3.cell? ⟨g, 1, none⟩ = some (.int .u32 (e.r : Int)) ∧ w3.cell? ⟨g, 2, none⟩ = some (.slice (some ⟨q', 0, none⟩) gs.length c) := ⟨hBg.cell 0, hBg.cell 1, hBg.cell 2⟩
      obtain ⟨z0, z1, z2⟩ : w3.frozen? ⟨g, 0, none⟩ = false ∧ w3.frozen? ⟨g, 1, none⟩ = false ∧ w3.frozen? ⟨g, 2, none⟩ = false := ⟨hBg.free 0, hBg.free 1, hBg.free 2⟩
      have HBG := Lib.hid hBg
      have HO3 := Lib.hid hO3
      have HY3 := Lib.hid hY3
      clear hO3 hBg hB3 hY3 hne3 hbe c2 K
      go_wp2_with fail
      first | go_end0 | (go_ret) | refine bodyPost_ret (results_none rfl _ _ _) rfl ?_
      have S5 : Only (fun i => i = g) w3 (((w3.setCell ⟨g, 0, none⟩ (.int .u32 0)).setCell ⟨g, 1, none⟩ (.int .u32 4294967295)).setCell ⟨g, 2, none⟩ (.slice (some ⟨wr.heap.size, 0, none⟩) 1 c3)) :=
        (((Only.refl (fun i => i = g) w3).setCell (p := ⟨g, 0, none⟩) (.inl rfl) _).setCell (p := ⟨g, 1, none⟩) (.inl rfl) _).setCell (p := ⟨g, 2, none⟩) (.inl rfl) _
      have P5 := ((HBG.out.put 0 (.int .u32 0)).put 1 (.int .u32 4294967295)).put 2 (.slice (some ⟨wr.heap.size, 0, none⟩) 1 c3)
      have hwg : wr.heap.size ≠ g := by have := HLT.out.1; omega
      refine ⟨q', c, gs, wr.heap.size, rfl, ((HY.out.only HO3.out (fun h => h)).only S5 HNE.out).sl, HNUM.out.1, HNUM.out.2, ⟨[0], 0, ⟨c3, P5, HY3.out.only S5 hwg, hwg⟩, by decide, rfl, rfl⟩, HSW.out, ?_⟩
      exact ((HO.out.trans (HO3.out.mono (fun _ h => h.elim))).trans (S5.mono fun _ h => .inl h))
end

/-- The program's coder, with the blocks that it owns. -/
def PnW (w : World) (g : Nat) (G : Nat → Prop) (e : En) : Prop := ∃ q, G = duo g q ∧ Pe w g q e

theorem own_of_pe {w w' : World} {g q : Nat} {T : En} {x : Ending} (h : PePost w g q T x w') : OwnPost (fun w' G' => PnW w' g G' T) w (duo g q) (.tuple #[]) x w' := by
  obtain ⟨rfl, q', hP, hq, hO⟩ := h
  refine ⟨rfl, duo g q', ⟨q', rfl, hP⟩, fun i hi => ?_, hO⟩
  rcases hi with hi | hi
  · exact .inl (.inl hi)
  · rcases hq with h | h
    · exact .inl (.inr (hi.trans h))
    · exact .inr (by omega)

theorem coder_con : CoderCon PnW where
  old := by
    rintro w g G e i ⟨q, rfl, hP⟩ hi
    have := hP.lt
    rcases hi with hi | hi <;> omega
  only := by
    rintro w w' g G e S ⟨q, rfl, hP⟩ hO hS
    exact ⟨q, rfl, hP.only hO (hS g (duo_l g q)) (hS q (duo_r g q))⟩
  new := by
    intro w
    refine (wnew_any w).mono ?_
    rintro x w' ⟨rfl, hP, hb⟩
    refine ⟨w.heap.size + 1, duo (w.heap.size + 1) w.heap.size, rfl, ⟨_, rfl, ⟨[0], 0, hP, by decide, rfl, rfl⟩⟩, fun i hi => ?_, hb⟩
    rcases hi with hi | hi <;> omega
  put := by
    rintro w g G e Q ⟨q, rfl, hP⟩ he hl hr hlen
    refine Calls.mono ?_ (fun x w' h => own_of_pe h)
    obtain ⟨k, s, z, t⟩ := Q
    have hN := rightN_of hr
    obtain ⟨s, rfl⟩ : ∃ n : Nat, s = (n : Int) := ⟨s.toNat, by rcases hr with h | h <;> (dsimp only at h; omega)⟩
    obtain ⟨z, rfl⟩ : ∃ n : Nat, z = (n : Int) := ⟨z.toNat, by rcases hr with h | h <;> (dsimp only at h; omega)⟩
    obtain ⟨t, rfl⟩ : ∃ n : Nat, t = (n : Int) := ⟨t.toNat, by rcases hr with h | h <;> (dsimp only at h; omega)⟩
    simp only [Int.toNat_natCast] at hN
    rcases hN with ⟨hk, hz, hs, ht⟩ | ⟨hk, hs, t1, t2, hz, hz2⟩
    · obtain rfl : k = 0 := by rcases hr with h | h <;> (dsimp only at h; omega)
      exact wput_part hP he hz hs ht hlen
    · obtain rfl : k = 1 := by rcases hr with h | h <;> (dsimp only at h; omega)
      exact wput_bit hP he hs t2 hz hz2 hlen
  count := by
    rintro w g G e ⟨q, rfl, hP⟩ hlen
    exact wcount_any hP hlen
  finish := by
    rintro w g G e ⟨q, rfl, hP⟩ hlen
    refine (wfinish_any hP hlen).mono ?_
    rintro x w' ⟨q', m, bs, q2, rfl, hS, hn, hl, hP2, hq2, hO⟩
    refine ⟨_, m, bs, duo g q2, rfl, hS, hn, hl, ⟨q2, rfl, hP2⟩, fun i hi => ?_, hO⟩
    rcases hi with hi | hi
    · exact .inl (.inl hi)
    · exact .inr (by omega)
end Go.Proofs.Ytkjhdpfomofggaa
