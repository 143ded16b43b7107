/-
  The reference's numbers that are put.
-/
import Derived.Test.YtolkgljbphgacaaNums
import Derived.Test.YtolkgljbphgacaaPuts
namespace Go.Proofs.Ytolkgljbphgacaa
open Go.RowKit

set_option maxHeartbeats 1000000 in
theorem refPut_any {A : Option Addr} {n c v : Nat} {x : Int} {bs : List UInt8} {w : World} (hS : Sl w A n (bv bs)) (hm : n ≤ 100000000) (hv : v < 18446744073709551616) :
    Calls Try.prog 36 #[.slice A n c, .int .i64 x, .int .u64 (v : Int)] w fun e w' =>
      ∃ A' c', e = .returned (.slice A' (n + (putM x v).length) c') ∧ w'.ownsRow w.heap.size 5 1 (.slice A' (n + (putM x v).length) c') (n + (putM x v).length) (bv (bs ++ putM x v)) ∧ Below w.heap.size w w' := by
  obtain ⟨i, hi, hz0, hz1, hz2⟩ := info_parts info_u8
  have HS := Lib.hid hS
  clear hS
  by_cases hs : x = 1 ∨ x = 2 ∨ x = 4 ∨ x = 8
  · obtain ⟨size, rfl⟩ := Int.eq_ofNat_of_zero_le (show 0 ≤ x by omega)
    have hp : putM (size : Int) v = leBytes size v := by simp [putM, hs]
    rw [hp, leBytes_length]
    have h8 : size ≤ 8 := by omega
    have HSZ := Lib.hid hs
    clear hs hp
    go_enter Try.func36, Try.ntmps36
    go_wp2_with (at_builtin; refine wpList_app _ rfl (.tmp 9) (.tmp 10) 22 rfl w.heap.size 5 i _ 1 Try.underlying22 hi hz0 hz1 hz2 rfl _ 0 [] rfl (own_empty w (Nat.le_refl _) _) A n c (bv bs) rfl (HS.out.alloc _) (bv_one bs) (by omega) (by omega) (by simp) ?_)
    intro A1 c1 w1 ho hg
    have HO := Lib.hid ho
    have HB := Lib.hid (((Below.refl w.heap.size w).alloc (Nat.le_refl _) _).grown hg (by simp) (fun k e => by simp [Value.ownBlock] at e; omega))
    clear ho hg
    have hcases : ((size : Int) != 1) = false ∨ ((size : Int) != 1) = true ∧ ((size : Int) != 2) = false ∨ ((size : Int) != 1) = true ∧ ((size : Int) != 2) = true ∧ ((size : Int) != 4) = false ∨ ((size : Int) != 1) = true ∧ ((size : Int) != 2) = true ∧ ((size : Int) != 4) = true ∧ ((size : Int) != 8) = false := by
      have hor : size = 1 ∨ size = 2 ∨ size = 4 ∨ size = 8 := by have := HSZ.out; omega
      rcases hor with rfl | rfl | rfl | rfl <;> simp
    have HCS := Lib.hid hcases
    clear hcases
    rcases HCS.out with d1 | ⟨d1, d2⟩ | ⟨d1, d2, d3⟩ | ⟨d1, d2, d3, d4⟩
    all_goals
      go_wp2_with fail
      go_loopw [8, 7] (fun i s wr => ∃ (k : Nat) (A2 : Option Addr) (c2 : Nat), k ≤ size ∧ i = .int .i64 k ∧ s = .slice A2 (n + k) c2 ∧ wr.ownsRow w.heap.size 5 1 (.slice A2 (n + k) c2) (n + k) (bv (bs ++ leBytes k v)) ∧ Below w.heap.size w wr) (fun i _ _ => size - (intOf i).toNat)
      case atStart => exact ⟨0, A1, c1, Nat.zero_le _, rfl, rfl, by simpa [leBytes] using HO.out, HB.out⟩
      case round =>
        obtain ⟨k, A2, c2, hk, rfl, rfl, ho, hb⟩ := hrel
        have HOr := Lib.hid ho
        have HBr := Lib.hid hb
        clear ho hb
        by_cases hlt : k < size
        · have HPW := Lib.hid (fun W => power_any (k := k) (w := W) (by omega))
          have hq : (v : Int) / ((256 ^ k : Nat) : Int) = ((v / 256 ^ k : Nat) : Int) := (Int.natCast_ediv v (256 ^ k)).symm
          have hp0 : 0 < 256 ^ k := Nat.pow_pos (by omega)
          have hql : v / 256 ^ k ≤ v := Nat.div_le_self _ _
          have hpl : 256 ^ k ≤ 18446744073709551616 := pow_le_64 k (by omega)
          have HN := Lib.hid (leBytes_succ k v)
          have hbyte : (((UInt8.ofNat (v / 256 ^ k % 256)).toNat : Nat) : Int) = ((v / 256 ^ k : Nat) : Int) % 256 := by
            rw [UInt8.toNat_ofNat']
            omega
          have HBY := Lib.hid hbyte
          clear hbyte
          generalize v / 256 ^ k = q at hq hql HN HBY
          generalize 256 ^ k = p at hq hp0 HPW hpl
          go_wp2_with fail
          refine (HPW.out _).mono ?_
          rintro e w2 ⟨rfl, rfl⟩
          go_wp2_with (at_builtin; refine wpList_app _ rfl (.tmp 32) (.tmp 39) 22 rfl w.heap.size 5 i _ 1 Try.underlying22 hi hz0 hz1 hz2 rfl _ (n + k) _ rfl (HOr.out.alloc _) _ 1 1 _ rfl (sl_one _ _ _) (one_one _ _) (by omega) (by omega) (by have := HBr.out.size; simp; omega) ?_)
          intro A3 c3 w3 ho hg
          have HB3 := Lib.hid ((HBr.out.alloc HBr.out.size _).grown hg (by have := HBr.out.size; simp; omega) (fun b e => (HOr.out.lt b e).1))
          have HO3 : Hid (w3.ownsRow w.heap.size 5 1 (.slice A3 (n + k + 1) c3) (n + k + 1) (bv (bs ++ leBytes (k + 1) v))) := by
            rw [HN.out, ← List.append_assoc, bv_append]
            have e : bv [UInt8.ofNat (q % 256)] = [.int .u8 ((q : Int) % 256)] := by
              unfold bv
              rw [List.map_singleton, HBY.out]
            rw [e]
            exact ho
          clear ho hg
          go_wp2
          go_roundw
          case rel => exact ⟨k + 1, A3, c3, by omega, by go_num, rfl, HO3.out, HB3.out⟩
          case measure => simp [intOf]; omega
        · obtain rfl : k = size := by omega
          go_wp2
          go_ret
          exact ⟨A2, c2, rfl, HOr.out, HBr.out⟩
  · have hp : putM x v = [] := by simp [putM, hs]
    rw [hp]
    have d1 : (x != 1) = true := by simp; omega
    have d2 : (x != 2) = true := by simp; omega
    have d3 : (x != 4) = true := by simp; omega
    have d4 : (x != 8) = true := by simp; omega
    clear hs hp
    go_enter Try.func36, Try.ntmps36
    go_wp2_with (at_builtin; refine wpList_app _ rfl (.tmp 9) (.tmp 10) 22 rfl w.heap.size 5 i _ 1 Try.underlying22 hi hz0 hz1 hz2 rfl _ 0 [] rfl (own_empty w (Nat.le_refl _) _) A n c (bv bs) rfl (HS.out.alloc _) (bv_one bs) (by omega) (by omega) (by simp) ?_)
    intro A1 c1 w1 ho hg
    have HO := Lib.hid ho
    have HB := Lib.hid (((Below.refl w.heap.size w).alloc (Nat.le_refl _) _).grown hg (by simp) (fun k e => by simp [Value.ownBlock] at e; omega))
    clear ho hg
    go_wp2
    go_ret
    exact ⟨A1, c1, rfl, by simpa using HO.out, HB.out⟩
end Go.Proofs.Ytolkgljbphgacaa
