/-
  Bytes that a sum takes: one, and a row; and the sum of bytes.
-/
import Derived.Test.YtlcefbdoolcgdaaStep
namespace Go.Proofs.Ytlcefbdoolcgdaa
open Go.RowKit

theorem SumCells.turn {cs : Array Value} {s n s' n' : Nat} (h : SumCells cs 1 s n) (hs : s' < 4294967296) :
    SumCells ((cs.setIfInBounds 259 (.int .u32 (s' : Int))).setIfInBounds 260 (.int .i64 (n' : Int))) 1 s' n' := by
  obtain ⟨hz, _, h0, h1, ht, _, _, _⟩ := h
  refine ⟨by rw [Array.size_setIfInBounds, Array.size_setIfInBounds]; exact hz, .inr rfl, ?_, ?_, ?_, ?_, ?_, hs⟩
  · rw [set_get (by omega), set_get (by omega)]; exact h0
  · rw [set_get (by omega), set_get (by omega)]; exact h1
  · intro _ i hi
    rw [set_get (by omega), set_get (by omega)]; exact ht rfl i hi
  · rw [set_get (by omega)]; exact set_same (by omega)
  · exact set_same (by rw [Array.size_setIfInBounds]; omega)

theorem SumAt.drewN {w : World} {g : Nat} {l : List UInt8} (h : SumAt w g l) (n : Nat) : SumAt (w.drewN n) g l := h
theorem SumAt.alloc {w : World} {g : Nat} {l : List UInt8} (h : SumAt w g l) (o : Obj) : SumAt (w.alloc o) g l := by
  obtain ⟨cs, d, hB, hC⟩ := h
  exact ⟨cs, d, hB.alloc o, hC⟩
theorem SumAt.below {w w' : World} {g : Nat} {l : List UInt8} (h : SumAt w g l) (hb : Below w.heap.size w w') : SumAt w' g l := by
  obtain ⟨cs, d, hB, hC⟩ := h
  exact ⟨cs, d, hB.below hb, hC⟩
theorem SumAt.grown {w w' : World} {g : Nat} {l : List UInt8} {row : Option Nat} (h : SumAt w g l) (hb : w.grownBy w' row) (hg : some g ≠ row) : SumAt w' g l := by
  obtain ⟨cs, d, hB, hC⟩ := h
  exact ⟨cs, d, hB.grown hb hg, hC⟩
theorem SumAt.far {w : World} {g : Nat} {l : List UInt8} (h : SumAt w g l) {p : Addr} (hp : g ≠ p.block) (u : Value) : SumAt (w.setCell p u) g l := by
  obtain ⟨cs, d, hB, hC⟩ := h
  exact ⟨cs, d, hB.far hp u, hC⟩
theorem SumAt.lt {w : World} {g : Nat} {l : List UInt8} (h : SumAt w g l) : g < w.heap.size := by
  obtain ⟨cs, d, hB, hC⟩ := h
  exact hB.lt

set_option maxRecDepth 100000 in
set_option maxHeartbeats 1600000 in
theorem byte_any {g : Nat} {l : List UInt8} {b : UInt8} {w : World} (h : SumAt w g l) (hl : l.length ≤ 1000000000) :
    Calls Try.prog 12 #[.pointer (some ⟨g, 0, none⟩), .int .u8 (b.toNat : Int)] w fun e w' => e = .returned (.tuple #[]) ∧ SumAt w' g (l ++ [b]) ∧ w.grownBy w' (some g) := by
  obtain ⟨cs, d, hB, hC⟩ := h
  have K := Lib.hid (do_any hB hC)
  have hs := sumOf_lt l
  have he := sumOf_append l [b]
  have he1 : reg (flip (sumOf l)) [b] = tick (flip (sumOf l) ^^^ b.toNat) := rfl
  rw [he1] at he
  generalize sumOf l = s at hs K he
  have hn : (l ++ [b]).length = l.length + 1 := by simp
  generalize l.length = n at hl K hn
  have e1 := not_u32 s hs
  have hf := flip_lt s hs
  generalize flip s = r at e1 hf he
  have hb := b.toNat_lt
  have ht : tick (r ^^^ b.toNat) < 4294967296 := tick_lt _ (Nat.xor_lt_two_pow (n := 32) hf (by omega))
  have e2 := not_u32 (tick (r ^^^ b.toNat)) ht
  have hlt' := flip_lt _ ht
  have HE := Lib.hid he
  have HN := Lib.hid hn
  have hmf : ∀ (fn : Fn) (first cap : Array Value) (w : World), (Instr.makeFunc fn first cap).run Try.prog w = .ok (.func fn first cap) w := fun _ _ _ _ => rfl
  clear hB hC he he1 hn
  go_enter Try.func12, Try.ntmps12
  go_wp2_with (go_at_call 17; refine K.out.mono ?_; rintro e w1 ⟨rfl, cs1, hB1, hC1, hg1⟩; have HB := Lib.hid hB1; have HC := Lib.hid hC1; have HG := Lib.hid hg1; have c259 := (hB1.cell 259).trans hC1.2.2.2.2.2.1; have c260 := (hB1.cell 260).trans hC1.2.2.2.2.2.2.1; have z259 := hB1.free 259; have z260 := hB1.free 260; clear hB1 hC1 hg1)
  refine (step_any HB.out HC.out hf (by omega)).mono ?_
  rintro e w' ⟨rfl, rfl⟩
  go_wp2_with fail
  go_end0
  refine ⟨rfl, ⟨_, 1, (HB.out.put 259 _).put 260 _, ?_⟩, only_setCell (only_setCell HG.out (.inl rfl) _) (.inl rfl) _⟩
  rw [HN.out, HE.out]
  exact HC.out.turn hlt'

set_option maxRecDepth 100000 in
set_option maxHeartbeats 1600000 in
theorem add_any {g : Nat} {l : List UInt8} {A : Option Addr} {m c : Nat} {bs : List UInt8} {w : World} (h : SumAt w g l) (hl : l.length ≤ 1000000000) (hS : Sl w A m (bv bs)) (hm : m ≤ 1000000000)
    (hne : 0 < m → ∀ b o, A = some ⟨b, o, none⟩ → b ≠ g) :
    Calls Try.prog 13 #[.pointer (some ⟨g, 0, none⟩), .slice A m c] w fun e w' => e = .returned (.tuple #[]) ∧ SumAt w' g (l ++ bs) ∧ w.grownBy w' (some g) := by
  have hbl : bs.length = m := by rw [← hS.1, bv_length]
  by_cases h0 : m = 0
  · subst h0
    have hb : bs = [] := List.eq_nil_of_length_eq_zero hbl
    subst hb
    have H := Lib.hid h
    clear h hS hne hbl
    go_enter Try.func13, Try.ntmps13
    go_wp2
    first | go_end0 | refine bodyPost_ret (results_none rfl _ _ _) rfl ?_
    exact ⟨rfl, by simpa using H.out, World.grownBy.refl w _⟩
  · obtain ⟨cs, d, hB, hC⟩ := h
    obtain ⟨ab, ao, rfl, hab, _⟩ := hS.2 (by omega)
    have hag : ab ≠ g := hne (by omega) ab ao rfl
    have K := Lib.hid (do_any hB hC)
    have hs := sumOf_lt l
    have he := sumOf_append l bs
    have hn : (l ++ bs).length = l.length + m := by simp [hbl]
    generalize sumOf l = s at hs K he
    generalize l.length = n at hl K hn
    have e1 := not_u32 s hs
    have hf := flip_lt s hs
    generalize flip s = r at e1 hf he
    have HE := Lib.hid he
    have HN := Lib.hid hn
    have HL := Lib.hid hbl
    have HS := Lib.hid hS
    have hm0 : ((m : Int) == 0) = false := by simp; omega
    have hmf : ∀ (fn : Fn) (first cap : Array Value) (w : World), (Instr.makeFunc fn first cap).run Try.prog w = .ok (.func fn first cap) w := fun _ _ _ _ => rfl
    clear hB hC he hn hbl hS hne
    go_enter Try.func13, Try.ntmps13
    go_wp2_with (go_at_call 17; refine K.out.mono ?_; rintro e w1 ⟨rfl, cs1, hB1, hC1, hg1⟩; have HB := Lib.hid hB1; have HC := Lib.hid hC1; have HG := Lib.hid hg1; have c259 := (hB1.cell 259).trans hC1.2.2.2.2.2.1; have c260 := (hB1.cell 260).trans hC1.2.2.2.2.2.2.1; have z259 := hB1.free 259; have z260 := hB1.free 260; clear hB1 hC1 hg1)
    have HS1 := Lib.hid (HS.out.grown HG.out (fun _ b o e => by injection e with e; injection e with e; omega))
    clear HS
    go_loop [4, 23, 6] (fun x i y => ∃ k : Nat, k ≤ m ∧ i = .int .i64 k ∧ x = .int .u32 (reg r (bs.take k) : Int)) (fun _ i _ => m - (intOf i).toNat)
    case atStart => exact ⟨0, Nat.zero_le _, rfl, rfl⟩
    case round =>
      obtain ⟨k, hk, rfl, rfl⟩ := hrel
      have hy : reg r (bs.take k) < 4294967296 := reg_lt _ _ hf
      by_cases hlt : k < m
      · obtain ⟨b', o', hA', _, hc⟩ := HS1.out.2 (by omega)
        injection hA' with hA'
        injection hA' with hA1 hA2
        subst hA1
        subst hA2
        have hcell : w1.cell? ⟨ab, ao + k, none⟩ = some (.int .u8 ((bs.getD k 0).toNat : Int)) := by rw [hc k hlt, bv_get _ _ (by have := HL.out; omega)]
        have HT := Lib.hid (reg_take r bs k (by have := HL.out; omega))
        generalize bs.getD k 0 = x at hcell HT
        generalize reg r (bs.take k) = y at hy HT
        have hx := x.toNat_lt
        clear hc
        go_wp2_with (go_at_call 19; refine (step_any HB.out HC.out hy (by omega)).mono ?_; rintro e w' ⟨rfl, rfl⟩)
        go_round
        case rel => exact ⟨k + 1, by omega, by go_num, by rw [HT.out]⟩
        case measure => simp [intOf]; omega
      · have hr : sumOf (l ++ bs) = flip (reg r (bs.take k)) := by rw [List.take_of_length_le (by have := HL.out; omega)]; exact HE.out
        generalize reg r (bs.take k) = y at hy hr
        have HR := Lib.hid hr
        have e2 := not_u32 y hy
        have hlt' := flip_lt _ hy
        clear hr
        go_wp2_with fail
        go_end0
        refine ⟨rfl, ⟨_, 1, (HB.out.put 259 _).put 260 _, ?_⟩, only_setCell (only_setCell HG.out (.inl rfl) _) (.inl rfl) _⟩
        rw [HN.out, HR.out]
        exact HC.out.turn hlt'

set_option maxRecDepth 100000 in
set_option maxHeartbeats 1000000 in
theorem of_any {A : Option Addr} {m c : Nat} {bs : List UInt8} {w : World} (hS : Sl w A m (bv bs)) (hm : m ≤ 1000000000) :
    Calls Try.prog 9 #[.slice A m c] w fun e w' => e = .returned (.int .u32 (sumOf bs : Int)) ∧ Below w.heap.size w w' := by
  have HS := Lib.hid hS
  clear hS
  go_enter Try.func9, Try.ntmps9
  go_wp2_with (go_at_call 11; refine (new_any _).mono ?_; rintro e w1 ⟨g, cs, rfl, hB, hC, hg, hb⟩; have HB := Lib.hid hB; have HC := Lib.hid hC; have HG := Lib.hid hg; have HW := Lib.hid hb; clear hB hC hg hb)
  have HA := Lib.hid (add_any (c := c) (l := []) ⟨cs, 0, HB.out, by simpa [sumOf_nil] using HC.out⟩ (by simp) (HS.out.below HW.out) hm (fun hn b o e => by
    obtain ⟨b', o', e', hlt, _⟩ := HS.out.2 hn
    rw [e] at e'
    injection e' with e'
    injection e' with e'
    have := HG.out
    omega))
  refine HA.out.mono ?_
  rintro e w2 ⟨rfl, hs, hgr⟩
  have HS2 := Lib.hid hs
  have HG2 := Lib.hid hgr
  clear hs hgr
  go_wp2_with (go_at_call 14; refine (sumValue_any HS2.out).mono ?_; rintro e w3 ⟨rfl, rfl⟩)
  go_ret
  exact ⟨by simp, HW.out.trans (below_of_only HG2.out HG.out HW.out.size)⟩
end Go.Proofs.Ytlcefbdoolcgdaa
