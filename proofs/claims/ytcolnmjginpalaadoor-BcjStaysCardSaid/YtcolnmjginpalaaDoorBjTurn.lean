/-
  A word's number, its targets, and what is put.
-/
import Derived.Test.YtcolnmjginpalaaDoorBjMem
namespace Go.Proofs.YtcolnmjginpalaaDoor
set_option linter.unusedVariables false
set_option linter.unusedSimpArgs false
open Go.RowKit

section
variable {w : World} {r o q k p : Nat} {c : Bool} {l m : Int} {bs : List UInt8}
theorem tg_true (p s : Nat) : ((tgN true p s : Nat) : Int) = ((s : Int) + ((p : Int) + 5)) % 4294967296 := by
  unfold tgN
  rw [if_pos rfl]
  omega
theorem tg_false (p s : Nat) : ((tgN false p s : Nat) : Int) = ((s : Int) - ((p : Int) + 5)) % 4294967296 := by
  unfold tgN
  rw [if_neg (by decide)]
  omega
set_option maxHeartbeats 2000000 in
theorem target_any {s : Nat} (h : At w r o q k c p l m bs) (hp : p ≤ 1000000000) (hs : s < 4294967296) :
    Calls Tryd.prog 36 #[.pointer (some ⟨r, o, none⟩), .int .u32 (s : Int)] w fun e w' => e = .returned (.int .u32 ((tgN c p s : Nat) : Int)) ∧ w = w' := by
  have c0 := h.codes
  have c1 := h.place
  have e1 : wrap64 ((p : Int) + 5) = (p : Int) + 5 := IntWalk.wrap64_in _ (by omega)
  have s0 : (0 : Int) ≤ (s : Int) := by omega
  clear h
  cases c
  · obtain ⟨t, ht⟩ : ∃ t : Int, t = ((tgN false p s : Nat) : Int) := ⟨_, rfl⟩
    rw [← ht]
    have HT := Lib.hid (ht.trans (tg_false p s))
    clear ht
    go_enter Tryd.func36, Tryd.ntmps36
    go_wp2_with fail
    go_ret
    exact ⟨ret_int HT.out.symm, rfl⟩
  · obtain ⟨t, ht⟩ : ∃ t : Int, t = ((tgN true p s : Nat) : Int) := ⟨_, rfl⟩
    rw [← ht]
    have HT := Lib.hid (ht.trans (tg_true p s))
    clear ht
    go_enter Tryd.func36, Tryd.ntmps36
    go_wp2_with fail
    go_ret
    exact ⟨ret_int HT.out.symm, rfl⟩
theorem le4_or (a b c d : UInt8) : bits BinOp.or IntKind.u32 (bits BinOp.or IntKind.u32 (bits BinOp.or IntKind.u32 ((a.toNat : Int) % 4294967296) ((b.toNat : Int) % 4294967296 * 256 % 4294967296)) ((c.toNat : Int) % 4294967296 * 65536 % 4294967296)) ((d.toNat : Int) % 4294967296 * 16777216 % 4294967296) = ((le4 [a, b, c, d] : Nat) : Int) := by
  have ha := a.toNat_lt
  have hb := b.toNat_lt
  have hc := c.toNat_lt
  have hd := d.toNat_lt
  have hl : le4 [a, b, c, d] = a.toNat + 256 * b.toNat + 65536 * c.toNat + 16777216 * d.toNat := rfl
  rw [hl, show (a.toNat : Int) % 4294967296 = ((a.toNat : Nat) : Int) by omega, show (b.toNat : Int) % 4294967296 * 256 % 4294967296 = ((256 * b.toNat : Nat) : Int) by omega,
    show (c.toNat : Int) % 4294967296 * 65536 % 4294967296 = ((65536 * c.toNat : Nat) : Int) by omega, show (d.toNat : Int) % 4294967296 * 16777216 % 4294967296 = ((16777216 * d.toNat : Nat) : Int) by omega,
    u32_or_nat _ _ (by omega) (by omega), Nat.or_comm, nat_join 8 (256 * b.toNat) a.toNat (by omega) (by omega), u32_or_nat _ _ (by omega) (by omega), Nat.or_comm, nat_join 16 (65536 * c.toNat) _ (by omega) (by omega),
    u32_or_nat _ _ (by omega) (by omega), Nat.or_comm, nat_join 24 (16777216 * d.toNat) _ (by omega) (by omega)]
  congr 1
  omega
set_option maxHeartbeats 2000000 in
theorem number_any {C : Nat} {a b c d : UInt8} (h0 : w.cell? ⟨q, k, none⟩ = some (.int .u8 (a.toNat : Int))) (h1 : w.cell? ⟨q, k + 1, none⟩ = some (.int .u8 (b.toNat : Int)))
    (h2 : w.cell? ⟨q, k + 2, none⟩ = some (.int .u8 (c.toNat : Int))) (h3 : w.cell? ⟨q, k + 3, none⟩ = some (.int .u8 (d.toNat : Int))) :
    Calls Tryd.prog 35 #[.slice (some ⟨q, k, none⟩) 4 C] w fun e w' => e = .returned (.int .u32 ((le4 [a, b, c, d] : Nat) : Int)) ∧ ∃ n, w.drewN n = w' := by
  go_enter Tryd.func35, Tryd.ntmps35
  go_wp2_with fail
  go_quiet (fail)
  go_wp2_with fail
  go_ret
  exact ⟨ret_int (le4_or a b c d), nq, rfl⟩
theorem setCell_again (w : World) (a : Addr) (u v : Value) : (w.setCell a u).setCell a v = w.setCell a v := by
  simp only [World.setCell]
  congr 1
  apply Array.ext_getElem?
  intro i
  simp only [Array.getElem?_modify]
  by_cases hi : a.block = i
  · rw [if_pos hi, if_pos hi, if_pos hi]
    cases w.heap[i]? with
    | none => rfl
    | some x =>
      cases x <;> simp
      by_cases hs : a.spot.isSome = true <;> simp [hs]
  · rw [if_neg hi, if_neg hi, if_neg hi]
theorem pu_0 (t : Nat) : ((t : Int) % 256) = (((pu4 t).getD 0 0).toNat : Int) := by
  show _ = ((UInt8.ofNat t).toNat : Int)
  rw [UInt8.toNat_ofNat']
  omega
theorem pu_1 (t : Nat) : ((t : Int) / 256 % 256) = (((pu4 t).getD 1 0).toNat : Int) := by
  show _ = ((UInt8.ofNat (t / 256)).toNat : Int)
  rw [UInt8.toNat_ofNat']
  omega
theorem pu_2 (t : Nat) : ((t : Int) / 65536 % 256) = (((pu4 t).getD 2 0).toNat : Int) := by
  show _ = ((UInt8.ofNat (t / 65536)).toNat : Int)
  rw [UInt8.toNat_ofNat']
  omega
theorem and_one {t : Nat} (ht : t < 4294967296) : bits BinOp.and IntKind.u32 ((t : Int) / 16777216) 1 = ((t / 16777216 % 2 : Nat) : Int) := by
  have := u32_and_nat (t / 16777216) 1 (by omega) (by omega)
  rw [nat_mask1] at this
  rw [show (t : Int) / 16777216 = ((t / 16777216 : Nat) : Int) by omega]
  exact this
set_option maxHeartbeats 2000000 in
theorem put_any {C t : Nat} {v0 v1 v2 v3 : Value} (ht : t < 4294967296) (h0 : w.cell? ⟨q, k, none⟩ = some v0) (h1 : w.cell? ⟨q, k + 1, none⟩ = some v1)
    (h2 : w.cell? ⟨q, k + 2, none⟩ = some v2) (h3 : w.cell? ⟨q, k + 3, none⟩ = some v3) (hf : ∀ i, w.frozen? ⟨q, i, none⟩ = false) :
    Calls Tryd.prog 33 #[.slice (some ⟨q, k, none⟩) 4 C, .int .u32 (t : Int)] w fun e w' => e = .returned (.tuple #[]) ∧
      w' = (((w.setCell ⟨q, k, none⟩ (.int .u8 (((pu4 t).getD 0 0).toNat : Int))).setCell ⟨q, k + 1, none⟩ (.int .u8 (((pu4 t).getD 1 0).toNat : Int))).setCell ⟨q, k + 2, none⟩ (.int .u8 (((pu4 t).getD 2 0).toNat : Int))).setCell ⟨q, k + 3, none⟩ (.int .u8 (((pu4 t).getD 3 0).toNat : Int)) := by
  have f0 := hf k
  have f1 := hf (k + 1)
  have f2 := hf (k + 2)
  have f3 := hf (k + 3)
  have ha := and_one ht
  clear hf
  rw [← pu_0, ← pu_1, ← pu_2]
  by_cases hb : t / 16777216 % 2 = 1
  · have e3 : (pu4 t).getD 3 0 = 255 := by
      show (if t / 16777216 % 2 = 1 then (255 : UInt8) else 0) = 255
      rw [if_pos hb]
    rw [hb] at ha
    have e1 : (bits BinOp.and IntKind.u32 ((t : Int) / 16777216) 1 == 1) = true := by rw [ha]; rfl
    rw [e3]
    clear ha hb e3
    go_enter Tryd.func33, Tryd.ntmps33
    go_wp2_with fail
    first | go_end0 | refine bodyPost_ret (results_none rfl _ _ _) rfl ?_
    exact ⟨rfl, setCell_again _ _ _ _⟩
  · have e3 : (pu4 t).getD 3 0 = 0 := by
      show (if t / 16777216 % 2 = 1 then (255 : UInt8) else 0) = 0
      rw [if_neg hb]
    rw [show t / 16777216 % 2 = 0 by omega] at ha
    have e1 : (bits BinOp.and IntKind.u32 ((t : Int) / 16777216) 1 == 1) = false := by rw [ha]; rfl
    rw [e3]
    clear ha hb e3
    go_enter Tryd.func33, Tryd.ntmps33
    go_wp2_with fail
    first | go_end0 | refine bodyPost_ret (results_none rfl _ _ _) rfl ?_
    exact ⟨rfl, rfl⟩
theorem xor_low {x n : Nat} (h : x < 2 ^ n) : x ^^^ (2 ^ n - 1) = 2 ^ n - 1 - x := by
  have h1 : (BitVec.ofNat n x ^^^ BitVec.allOnes n).toNat = 2 ^ n - 1 - x := by
    rw [BitVec.xor_allOnes, BitVec.toNat_not, BitVec.toNat_ofNat, Nat.mod_eq_of_lt h]
  rw [BitVec.toNat_xor, BitVec.toNat_allOnes, BitVec.toNat_ofNat, Nat.mod_eq_of_lt h] at h1
  exact h1
theorem xor_fl (t n : Nat) : t ^^^ (2 ^ n - 1) = t - t % 2 ^ n + (2 ^ n - 1 - t % 2 ^ n) := by
  have hp : 0 < 2 ^ n := Nat.two_pow_pos n
  have h1 : (t ^^^ (2 ^ n - 1)) / 2 ^ n = t / 2 ^ n := by
    rw [Nat.xor_div_two_pow, Nat.div_eq_of_lt (show 2 ^ n - 1 < 2 ^ n by omega), Nat.xor_zero]
  have h2 : (t ^^^ (2 ^ n - 1)) % 2 ^ n = 2 ^ n - 1 - t % 2 ^ n := by
    rw [Nat.xor_mod_two_pow, Nat.mod_eq_of_lt (show 2 ^ n - 1 < 2 ^ n by omega), xor_low (Nat.mod_lt _ hp)]
  have h3 := Nat.div_add_mod (t ^^^ (2 ^ n - 1)) (2 ^ n)
  have h4 := Nat.div_add_mod t (2 ^ n)
  rw [h1, h2] at h3
  omega
/-- the second target's byte is no edge: two tries are enough -/
theorem tu_ends {c : Bool} {p a s : Nat} (h : alB a = true) (h0 : a ≠ 0) (he : egB (byN a s) = false) : egB (byN a (tuN c p a s)) = false := by
  obtain ⟨hq, hl, k, hM⟩ := qu_facts h h0
  have hb : ∀ t, byN a t = UInt8.ofNat (t / quN a) := fun t => rfl
  have hef : ∃ f, (teN c p + f) % 33554432 = 0 := by
    cases c
    · exact ⟨_, by have := te_back p; rw [Nat.add_comm] at this; exact this⟩
    · exact ⟨_, te_back p⟩
  obtain ⟨f, hef⟩ := hef
  rw [hb, Bool.eq_false_iff, ne_eq, eg_of, eg_mod hq hM] at he ⊢
  rw [tu_res h h0]
  exact (fx_back hq hM hef (Nat.mod_lt _ (by decide)) he).1
theorem edge_at (x : UInt8) {v : Int} (hv : v = (x.toNat : Int)) (w : World) : Calls Tryd.prog 32 #[.int .u8 v] w fun e w' => e = .returned (.bool (egB x)) ∧ w = w' := by
  rw [hv]
  exact edge_any x w
theorem target_at {s : Nat} {v : Int} (h : At w r o q k c p l m bs) (hp : p ≤ 1000000000) (hs : s < 4294967296) (hv : v = (s : Int)) :
    Calls Tryd.prog 36 #[.pointer (some ⟨r, o, none⟩), .int .u32 v] w fun e w' => e = .returned (.int .u32 ((tgN c p s : Nat) : Int)) ∧ w = w' := by
  rw [hv]
  exact target_any h hp hs
theorem fl_lt32 {a t : Nat} (h : alB a = true) (h0 : a ≠ 0) (ht : t < 4294967296) : flN a t < 4294967296 := by
  obtain ⟨hq, hl, k, hM⟩ := qu_facts h h0
  unfold flN
  have h1 := Nat.mod_lt t (show 0 < loN a by omega)
  have h2 := Nat.div_add_mod t (loN a)
  have h3 : 4294967296 = loN a * (k * 128) := by rw [hl, ← Nat.mul_assoc, ← hM]
  have h4 : t / loN a < k * 128 := Nat.div_lt_of_lt_mul (by rw [← h3]; exact ht)
  have h5 : loN a * (t / loN a) + loN a ≤ loN a * (k * 128) := by
    have := Nat.mul_le_mul_left (loN a) h4
    rwa [Nat.mul_succ] at this
  omega
def TurnRel (c : Bool) (p a s : Nat) (v : Value) : Prop := ∃ t : Nat, t < 4294967296 ∧ v = .int .u32 (t : Int) ∧ (t = tgN c p s ∨ (t = tuN c p a s ∧ egB (byN a t) = false))
def turnMu (a : Nat) (v : Value) : Nat := if egB (byN a (intOf v).toNat) = true then 1 else 0
theorem by_int {a t : Nat} (h : alB a = true) (h0 : a ≠ 0) : (t : Int) / ((2 ^ (24 - 8 * btN a) : Nat) : Int) % 256 = ((byN a t).toNat : Int) := by
  unfold byN
  rw [UInt8.toNat_ofNat']
  generalize 2 ^ (24 - 8 * btN a) = n
  rw [← Int.natCast_ediv]
  omega
theorem xor_int {a t : Nat} (h : alB a = true) (h0 : a ≠ 0) (ht : t < 4294967296) : bits BinOp.xor IntKind.u32 (t : Int) ((loN a - 1 : Nat) : Int) = ((flN a t : Nat) : Int) := by
  have hl : loN a - 1 < 4294967296 := by rcases alB_cases h h0 with rfl | rfl | rfl <;> decide
  rw [u32_xor_nat _ _ ht hl]
  congr 1
  exact xor_fl t (32 - 8 * btN a)
theorem by_1 (t : Nat) : (t : Int) / 65536 % 256 = ((byN 1 t).toNat : Int) := by_int (a := 1) rfl (by decide)
theorem by_2 (t : Nat) : (t : Int) / 256 % 256 = ((byN 2 t).toNat : Int) := by_int (a := 2) rfl (by decide)
theorem by_4 (t : Nat) : (t : Int) % 256 = ((byN 4 t).toNat : Int) := by
  have h : (t : Int) / 1 % 256 = ((byN 4 t).toNat : Int) := by_int (a := 4) rfl (by decide)
  rwa [Int.ediv_one] at h
theorem xor_1 {t : Nat} (ht : t < 4294967296) : bits BinOp.xor IntKind.u32 (t : Int) 16777215 = ((flN 1 t : Nat) : Int) := xor_int (a := 1) rfl (by decide) ht
theorem xor_2 {t : Nat} (ht : t < 4294967296) : bits BinOp.xor IntKind.u32 (t : Int) 65535 = ((flN 2 t : Nat) : Int) := xor_int (a := 2) rfl (by decide) ht
theorem xor_4 {t : Nat} (ht : t < 4294967296) : bits BinOp.xor IntKind.u32 (t : Int) 255 = ((flN 4 t : Nat) : Int) := xor_int (a := 4) rfl (by decide) ht
theorem turn_more {c : Bool} {p a s t : Nat} (h0 : a ≠ 0) (h : t = tgN c p s ∨ (t = tuN c p a s ∧ egB (byN a t) = false)) (he : egB (byN a t) = true) : tgN c p (flN a t) = tuN c p a s := by
  rcases h with rfl | ⟨_, h⟩
  · unfold tuN
    rw [if_pos ⟨h0, he⟩]
  · rw [he] at h; cases h
theorem turn_done {c : Bool} {p a s t : Nat} (h : t = tgN c p s ∨ (t = tuN c p a s ∧ egB (byN a t) = false)) (he : egB (byN a t) = false) : t = tuN c p a s := by
  rcases h with rfl | ⟨h, _⟩
  · unfold tuN
    rw [if_neg (fun h => by rw [he] at h; cases h.2)]
  · exact h
theorem mu_pos {a t : Nat} (he : egB (byN a t) = true) : turnMu a (.int .u32 (t : Int)) = 1 := by
  unfold turnMu
  rw [show (intOf (Value.int .u32 (t : Int))).toNat = t from Int.toNat_natCast t, if_pos he]
theorem mu_zero {a t : Nat} (he : egB (byN a t) = false) : turnMu a (.int .u32 (t : Int)) = 0 := by
  unfold turnMu
  rw [show (intOf (Value.int .u32 (t : Int))).toNat = t from Int.toNat_natCast t, if_neg (by rw [he]; decide)]
set_option maxRecDepth 100000 in
set_option maxHeartbeats 2000000 in
theorem turned_any {a s : Nat} (h : At w r o q k c p l (a : Int) bs) (ha : alB a = true) (he : a ≠ 0 → egB (byN a s) = false) (hp : p ≤ 1000000000) (hs : s < 4294967296) :
    Calls Tryd.prog 34 #[.pointer (some ⟨r, o, none⟩), .int .u32 (s : Int)] w fun e w' => e = .returned (.int .u32 ((tuN c p a s : Nat) : Int)) ∧ w = w' := by
  have c3 := h.mask
  have a8 : a < 8 := by
    by_cases h0 : a = 0
    · omega
    · rcases alB_cases ha h0 with rfl | rfl | rfl <;> decide
  have cb := h.tabs.bt a a8
  have KT := Lib.hid (fun s hs v hv => target_at (s := s) (v := v) h hp hs hv)
  have HS := Lib.hid hs
  by_cases h0 : a = 0
  · subst h0
    have e0 : (((0 : Nat) : Int) != 0) = false := by decide
    have ht : tuN c p 0 s = tgN c p s := by
      unfold tuN
      rw [if_neg (fun h => h.1 rfl)]
    rw [ht]
    clear h he a8 ha ht
    go_enter Tryd.func34, Tryd.ntmps34
    go_wp2_with fail
    refine (KT.out s HS.out _ rfl).mono ?_
    rintro e w1 ⟨rfl, rfl⟩
    go_wp2_with fail
    go_loop [6] (fun v => v = .int .u32 ((tgN c p s : Nat) : Int)) (fun _ => 0)
    case atStart => rfl
    case round =>
      subst hrel
      go_wp2_with fail
      go_ret
      exact ⟨rfl, rfl⟩
  · have e0 : ((a : Int) != 0) = true := by simp; omega
    have HE := Lib.hid (he h0)
    have HA := Lib.hid (And.intro ha h0)
    have HT := Lib.hid (tgN_lt c p s)
    clear h he hs hp
    rcases alB_cases ha h0 with rfl | rfl | rfl
    · clear ha h0 a8
      rw [show btN 1 = 1 from rfl] at cb
      go_enter Tryd.func34, Tryd.ntmps34
      go_wp2_with fail
      refine (KT.out s HS.out _ rfl).mono ?_
      rintro e w1 ⟨rfl, rfl⟩
      go_wp2_with fail
      go_loop [6] (fun v => TurnRel c p 1 s v) (fun v => turnMu 1 v)
      case atStart => exact ⟨_, HT.out, rfl, .inl rfl⟩
      case round =>
        obtain ⟨t, ht, rfl, h2⟩ := hrel
        have H2 := Lib.hid h2
        have HT2 := Lib.hid ht
        clear h2 ht
        cases hb : egB (byN 1 t)
        · have K := Lib.hid (fun w => edge_at (byN 1 t) (by_1 t) w)
          rw [hb] at K
          have HR := Lib.hid (turn_done H2.out hb)
          clear hb
          go_wp2_with fail
          refine (K.out _).mono ?_
          rintro e w2 ⟨rfl, rfl⟩
          go_wp2_with fail
          go_ret
          exact ⟨ret_int (by rw [← HR.out]), rfl⟩
        · have K := Lib.hid (fun w => edge_at (byN 1 t) (by_1 t) w)
          rw [hb] at K
          have HR := Lib.hid (turn_more HA.out.2 H2.out hb)
          have HM := Lib.hid (mu_pos hb)
          have HX := Lib.hid (xor_1 HT2.out)
          have HF := Lib.hid (fl_lt32 HA.out.1 HA.out.2 HT2.out)
          clear hb
          go_wp2_with fail
          refine (K.out _).mono ?_
          rintro e w2 ⟨rfl, rfl⟩
          go_wp2_with fail
          refine (KT.out (flN 1 t) HF.out _ HX.out).mono ?_
          rintro e w3 ⟨rfl, rfl⟩
          go_wp2_with fail
          go_round
          case rel => exact ⟨_, tgN_lt _ _ _, rfl, .inr ⟨HR.out, by rw [HR.out]; exact tu_ends HA.out.1 HA.out.2 HE.out⟩⟩
          case measure =>
            rw [HM.out, mu_zero (by rw [HR.out]; exact tu_ends HA.out.1 HA.out.2 HE.out)]
            decide
    · clear ha h0 a8
      rw [show btN 2 = 2 from rfl] at cb
      go_enter Tryd.func34, Tryd.ntmps34
      go_wp2_with fail
      refine (KT.out s HS.out _ rfl).mono ?_
      rintro e w1 ⟨rfl, rfl⟩
      go_wp2_with fail
      go_loop [6] (fun v => TurnRel c p 2 s v) (fun v => turnMu 2 v)
      case atStart => exact ⟨_, HT.out, rfl, .inl rfl⟩
      case round =>
        obtain ⟨t, ht, rfl, h2⟩ := hrel
        have H2 := Lib.hid h2
        have HT2 := Lib.hid ht
        clear h2 ht
        cases hb : egB (byN 2 t)
        · have K := Lib.hid (fun w => edge_at (byN 2 t) (by_2 t) w)
          rw [hb] at K
          have HR := Lib.hid (turn_done H2.out hb)
          clear hb
          go_wp2_with fail
          refine (K.out _).mono ?_
          rintro e w2 ⟨rfl, rfl⟩
          go_wp2_with fail
          go_ret
          exact ⟨ret_int (by rw [← HR.out]), rfl⟩
        · have K := Lib.hid (fun w => edge_at (byN 2 t) (by_2 t) w)
          rw [hb] at K
          have HR := Lib.hid (turn_more HA.out.2 H2.out hb)
          have HM := Lib.hid (mu_pos hb)
          have HX := Lib.hid (xor_2 HT2.out)
          have HF := Lib.hid (fl_lt32 HA.out.1 HA.out.2 HT2.out)
          clear hb
          go_wp2_with fail
          refine (K.out _).mono ?_
          rintro e w2 ⟨rfl, rfl⟩
          go_wp2_with fail
          refine (KT.out (flN 2 t) HF.out _ HX.out).mono ?_
          rintro e w3 ⟨rfl, rfl⟩
          go_wp2_with fail
          go_round
          case rel => exact ⟨_, tgN_lt _ _ _, rfl, .inr ⟨HR.out, by rw [HR.out]; exact tu_ends HA.out.1 HA.out.2 HE.out⟩⟩
          case measure =>
            rw [HM.out, mu_zero (by rw [HR.out]; exact tu_ends HA.out.1 HA.out.2 HE.out)]
            decide
    · clear ha h0 a8
      rw [show btN 4 = 3 from rfl] at cb
      go_enter Tryd.func34, Tryd.ntmps34
      go_wp2_with fail
      refine (KT.out s HS.out _ rfl).mono ?_
      rintro e w1 ⟨rfl, rfl⟩
      go_wp2_with fail
      go_loop [6] (fun v => TurnRel c p 4 s v) (fun v => turnMu 4 v)
      case atStart => exact ⟨_, HT.out, rfl, .inl rfl⟩
      case round =>
        obtain ⟨t, ht, rfl, h2⟩ := hrel
        have H2 := Lib.hid h2
        have HT2 := Lib.hid ht
        clear h2 ht
        cases hb : egB (byN 4 t)
        · have K := Lib.hid (fun w => edge_at (byN 4 t) (by_4 t) w)
          rw [hb] at K
          have HR := Lib.hid (turn_done H2.out hb)
          clear hb
          go_wp2_with fail
          refine (K.out _).mono ?_
          rintro e w2 ⟨rfl, rfl⟩
          go_wp2_with fail
          go_ret
          exact ⟨ret_int (by rw [← HR.out]), rfl⟩
        · have K := Lib.hid (fun w => edge_at (byN 4 t) (by_4 t) w)
          rw [hb] at K
          have HR := Lib.hid (turn_more HA.out.2 H2.out hb)
          have HM := Lib.hid (mu_pos hb)
          have HX := Lib.hid (xor_4 HT2.out)
          have HF := Lib.hid (fl_lt32 HA.out.1 HA.out.2 HT2.out)
          clear hb
          go_wp2_with fail
          refine (K.out _).mono ?_
          rintro e w2 ⟨rfl, rfl⟩
          go_wp2_with fail
          refine (KT.out (flN 4 t) HF.out _ HX.out).mono ?_
          rintro e w3 ⟨rfl, rfl⟩
          go_wp2_with fail
          go_round
          case rel => exact ⟨_, tgN_lt _ _ _, rfl, .inr ⟨HR.out, by rw [HR.out]; exact tu_ends HA.out.1 HA.out.2 HE.out⟩⟩
          case measure =>
            rw [HM.out, mu_zero (by rw [HR.out]; exact tu_ends HA.out.1 HA.out.2 HE.out)]
            decide
end
end Go.Proofs.YtcolnmjginpalaaDoor
