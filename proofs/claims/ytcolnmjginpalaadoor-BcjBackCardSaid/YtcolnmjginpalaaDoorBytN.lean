/-
  A row of bytes of the call's own, its block named; rows compared.
-/
import Derived.Test.YtcolnmjginpalaaDoorInfo
import Derived.Test.YtcolnmjginpalaaDoorBe
import Derived.Deep.AppendLies
import Derived.LoopTactic
namespace Go.Proofs.YtcolnmjginpalaaDoor
open Go.RowKit

/-- Block q holds the bytes bs. -/
def Byt (w : World) (q c : Nat) (bs : List UInt8) : Prop := w.ownsRow 0 5 1 (.slice (some ⟨q, 0, none⟩) bs.length c) bs.length (bv bs)

theorem bv_set (bs : List UInt8) (i : Nat) (y : UInt8) : (bv bs).set i (.int .u8 (y.toNat : Int)) = bv (bs.set i y) := by
  simp [bv, List.map_set]

section
variable {w w' : World} {q c : Nat} {bs : List UInt8}
theorem Byt.cell (h : Byt w q c bs) {i : Nat} (hi : i < bs.length) : w.cell? ⟨q, i, none⟩ = some (.int .u8 ((bs.getD i 0).toNat : Int)) := by
  rw [World.ownsRow.cellAt h i (by omega), bv_get bs i hi]
theorem Byt.free (h : Byt w q c bs) (i : Nat) : w.frozen? ⟨q, i, none⟩ = false := World.ownsRow.frozenAt h i
theorem Byt.put (h : Byt w q c bs) (i : Nat) (y : UInt8) : Byt (w.setCell ⟨q, i, none⟩ (.int .u8 (y.toNat : Int))) q c (bs.set i y) := by
  have := (World.ownsRow.stored h i (.int .u8 (y.toNat : Int))).1
  rw [bv_set] at this
  unfold Byt
  rw [List.length_set]
  exact this
theorem Byt.drewN (h : Byt w q c bs) (n : Nat) : Byt (w.drewN n) q c bs := h
theorem Byt.only {S : Nat → Prop} (h : Byt w q c bs) (hb : Only S w w') (hS : ¬ S q) : Byt w' q c bs := own_only h hb hS
theorem Byt.lt (h : Byt w q c bs) : q < w.heap.size := (World.ownsRow.lt h q rfl).2
theorem Byt.own (h : Byt w q c bs) : w.ownsRow 0 5 1 (.slice (some ⟨q, 0, none⟩) bs.length c) bs.length (bv bs) := h
theorem Byt.sl (h : Byt w q c bs) : Sl w (some ⟨q, 0, none⟩) bs.length (bv bs) := (own_facts h).1
theorem Byt.cap (h : Byt w q c bs) : bs.length ≤ c ∧ c ≤ maxLen := by
  obtain ⟨_, h2, h3, _⟩ := own_facts h
  exact ⟨h2, h3⟩
end

/-- a byte in the midst is another one -/
theorem be_set : ∀ (cs : List UInt8) (k : Nat) (z : UInt8), k < cs.length → be (cs.set k z) + (cs.getD k 0).toNat * 256 ^ (cs.length - 1 - k) = be cs + z.toNat * 256 ^ (cs.length - 1 - k) := by
  intro cs k z hk
  have e1 : cs = cs.take k ++ (cs[k] :: cs.drop (k + 1)) := by rw [← List.drop_eq_getElem_cons hk, List.take_append_drop]
  have e2 : cs.set k z = cs.take k ++ (z :: cs.drop (k + 1)) := by
    have := List.set_eq_take_append_cons_drop (l := cs) (i := k) (a := z)
    rw [this, if_pos hk]
  have e3 : cs.getD k 0 = cs[k] := by simp [List.getD, hk]
  have hl : (cs.drop (k + 1)).length = cs.length - 1 - k := by rw [List.length_drop]; omega
  have one : ∀ y : UInt8, be (cs.take k ++ (y :: cs.drop (k + 1))) = be (cs.take k) * 256 ^ (cs.length - 1 - k + 1) + (y.toNat * 256 ^ (cs.length - 1 - k) + be (cs.drop (k + 1))) := by
    intro y
    have hc : y :: cs.drop (k + 1) = [y] ++ cs.drop (k + 1) := rfl
    rw [be_append, hc, be_append, List.length_append, hl]
    simp only [List.length_singleton]
    rw [show be [y] = y.toNat by simp [be], Nat.add_comm 1]
  have f1 : be (cs.set k z) = be (cs.take k) * 256 ^ (cs.length - 1 - k + 1) + (z.toNat * 256 ^ (cs.length - 1 - k) + be (cs.drop (k + 1))) := by rw [e2]; exact one z
  have f2 : be cs = be (cs.take k) * 256 ^ (cs.length - 1 - k + 1) + ((cs[k]).toNat * 256 ^ (cs.length - 1 - k) + be (cs.drop (k + 1))) := by
    have := one cs[k]
    rwa [← e1] at this
  rw [f1, f2, e3]
  omega

set_option maxHeartbeats 1000000 in
theorem bytesSame_any {A B : Option Addr} {n ca cb : Nat} {bs : List UInt8} {w : World} (hA : Sl w A n (bv bs)) (hB : Sl w B n (bv bs)) (hn : n ≤ 1000000000) :
    Calls Tryd.prog 9 #[.slice A n ca, .slice B n cb] w fun e w' => e = .returned (.bool true) ∧ ∃ d, w.drewN d = w' := by
  have HA := Lib.hid hA
  have HB := Lib.hid hB
  have hl : bs.length = n := by rw [← bv_length]; exact hA.1
  have HL := Lib.hid hl
  clear hA hB hl
  go_enter Tryd.func9, Tryd.ntmps9
  go_wp2_with fail
  go_loopw [5] (fun i wr => ∃ j k : Nat, j ≤ n ∧ i = .int .i64 (j : Int) ∧ wr = w.drewN k) (fun i _ => n - (intOf i).toNat)
  case atStart => exact ⟨0, 0, Nat.zero_le _, rfl, rfl⟩
  case round =>
    obtain ⟨j, k, hj, rfl, rfl⟩ := hrel
    by_cases hlt : j < n
    · obtain ⟨ba, oa, rfl, hba, hca⟩ := HA.out.2 (by omega)
      obtain ⟨bb, ob, rfl, hbb, hcb⟩ := HB.out.2 (by omega)
      have c1 : w.cell? ⟨ba, oa + j, none⟩ = some (.int .u8 ((bs.getD j 0).toNat : Int)) := by rw [hca j hlt, bv_get bs j (by have := HL.out; omega)]
      have c2 : w.cell? ⟨bb, ob + j, none⟩ = some (.int .u8 ((bs.getD j 0).toNat : Int)) := by rw [hcb j hlt, bv_get bs j (by have := HL.out; omega)]
      generalize bs.getD j 0 = x at *
      have i0 : (0 : Int) ≤ (j : Int) := by omega
      have i1 : (j : Int) < (n : Int) := by omega
      clear hca hcb
      go_wp2_with fail
      go_quiet (fail)
      go_wp2_with fail
      go_roundw
      case rel => exact ⟨j + 1, k + nq, by omega, by go_num, rfl⟩
      case measure => simp [intOf]; omega
    · obtain rfl : j = n := by omega
      go_wp2_with fail
      go_ret
      exact ⟨rfl, _, rfl⟩
end Go.Proofs.YtcolnmjginpalaaDoor
