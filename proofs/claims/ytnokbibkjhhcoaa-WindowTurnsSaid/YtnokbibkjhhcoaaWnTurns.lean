/-
  The law WindowTurns, walked over what the program's window owes.
-/
import Derived.Test.YtnokbibkjhhcoaaWnLast
import Derived.Deep.RegionHeld3
namespace Go.Proofs.Ytnokbibkjhhcoaa
open Go.RowKit

theorem turns_at {Z : Nat} {bs : List UInt8} {k i : Nat} (hk : k < bs.length) (hz : k < Z) : ((⟨Z, bs, false⟩ : Ws).turns (k : Int) i).sz = Z ∧ ((⟨Z, bs, false⟩ : Ws).turns (k : Int) i).shut = false ∧ ((⟨Z, bs, false⟩ : Ws).turns (k : Int) i).l.length = bs.length + i ∧
    ((⟨Z, bs, false⟩ : Ws).turns (k : Int) i).at_ (k : Int) = bs.getD (bs.length - 1 - k + i % (k + 1)) 0 := by
  obtain ⟨m, h1, h2, h3, h4, _⟩ := turns_ok hk hz i
  have h1 : (⟨Z, bs, false⟩ : Ws).turns (k : Int) i = ⟨Z, bs ++ m, false⟩ := h1
  rw [h1]
  exact ⟨rfl, rfl, by show (bs ++ m).length = _; rw [List.length_append, h2], h4⟩

set_option maxRecDepth 100000 in
set_option maxHeartbeats 8000000 in
theorem windowTurns_walk {Pw : World → Nat → (Nat → Prop) → Nat → Ws → Prop} (C : WinCon Pw) (Aw : AwakeCon7) {A : Option Addr} {L c : Nat} {bs : List UInt8} {dd t : Nat} {w : World} (hS : Sl w A L (bv bs)) (hL : L ≤ maxLen) (hdd : dd < 256) (ht : t < 256) :
    Calls Try.prog 6 #[.slice A L c, .int .u8 (dd : Int), .int .u8 (t : Int)] w fun e w' => e = .returned (.bool true) ∧ Below w.heap.size w w' := by
  have hbl : bs.length = L := by rw [← bv_length]; exact hS.1
  subst hbl
  unfold maxLen at hL
  have HS := Lib.hid hS
  have HL := Lib.hid hL
  have HT := Lib.hid ht
  clear hS ht
  go_enter Try.func6, Try.ntmps6
  go_wp2_with fail
  refine (Aw w).mono ?_
  rintro e w1 ⟨rfl, hb1⟩
  have HB1 := Lib.hid hb1
  clear hb1
  by_cases hlow : (bs.length : Int) < 1
  · clear hL hdd
    go_wp2_with fail
    go_ret
    exact ⟨rfl, HB1.out⟩
  by_cases hbig : (bs.length : Int) > 500
  · clear hL hdd
    go_wp2_with fail
    go_ret
    exact ⟨rfl, HB1.out⟩
  have HBIG := Lib.hid (show 1 ≤ bs.length ∧ bs.length ≤ 500 by omega)
  have HDD := Lib.hid hdd
  clear hL hdd
  go_wp2_with fail
  refine (mnew_any ⟨1000, 0, 0, 0, 0⟩ w1).mono ?_
  rintro e w2 ⟨m, rfl, hM, hmm, hb2⟩
  have K := Lib.hid (show Calls Try.prog 8 #[.int .i64 1000, .pointer (some ⟨m, 0, none⟩)] w2 fun x w' =>
      ∃ g G, x = .returned (.tuple #[.pointer (some ⟨g, 0, none⟩), .int .i64 0]) ∧ Pw w' g G m ⟨1000, [], false⟩ ∧ (∀ i, G i → w.heap.size ≤ i) ∧ Below w.heap.size w w' from
    new_step C (w := w) (N := 1000) (M := 1000) hM (by decide) (by decide) (by decide) (by decide) (by have := HB1.out.size; omega) (HB1.out.trans (hb2.mono HB1.out.size)))
  clear hM hmm hb2
  go_wp2_with fail
  refine K.out.mono ?_
  rintro e w3 ⟨g, G, rfl, hP, hG, hB⟩
  have HP := Lib.hid (show Pw w3 g G m (putsTo 1000 bs 0) from hP)
  have HG := Lib.hid hG
  have HB := Lib.hid hB
  clear hP hG hB K HB1
  go_wp2_with fail
  go_loopw [9] (fun i wr => ∃ (j : Nat) (G' : Nat → Prop), j ≤ bs.length ∧ i = .int .i64 (j : Int) ∧ Pw wr g G' m (putsTo 1000 bs j) ∧ (∀ i, G' i → w.heap.size ≤ i) ∧ Below w.heap.size w wr) (fun i _ => bs.length - (intOf i).toNat)
  case atStart => exact ⟨0, G, Nat.zero_le _, rfl, HP.out, HG.out, HB.out⟩
  case round =>
    clear HP HG HB
    obtain ⟨j, G', hj, rfl, hP, hG, hB⟩ := hrel
    by_cases hlt : j < bs.length
    · obtain ⟨b, o, rfl, cx⟩ := byte_at HS.out hB hlt
      have K := put_any C (b := bs.getD j 0) hP (by show 1000 ≤ 1048576; decide) (by have := putsTo_len (N := 1000) (j := j) (bs := bs); have := HBIG.out; omega) hG hB
      rw [putsTo_next hlt] at K
      have HK := Lib.hid K
      have hlt' : (j : Int) < (bs.length : Int) := by omega
      have j0 : (0 : Int) ≤ (j : Int) := by omega
      have ej : IntKind.i64.wrap ((j : Int) + 1) = (j : Int) + 1 := IntWalk.i64_in _ (by have := HBIG.out; omega)
      clear hP hG hB K
      generalize bs.getD j 0 = x at *
      go_wp2_with fail
      refine HK.out.mono ?_
      rintro e w4 ⟨rfl, G4, hP, hG, hB⟩
      have HP := Lib.hid hP
      have HG := Lib.hid hG
      have HB := Lib.hid hB
      clear hP hG hB HK cx
      go_wp2_with fail
      go_roundw
      case rel => exact ⟨j + 1, G4, by omega, by go_num, HP.out, HG.out, HB.out⟩
      case measure => simp [intOf]; omega
    · obtain rfl : j = bs.length := by omega
      rw [putsTo_all] at hP
      have HP := Lib.hid hP
      have HG := Lib.hid hG
      have HB := Lib.hid hB
      have hirr : ¬ (bs.length : Int) < (bs.length : Int) := by omega
      obtain ⟨k, hk⟩ : ∃ k, k = dd % bs.length := ⟨_, rfl⟩
      have hkl : k < bs.length := by rw [hk]; exact Nat.mod_lt _ (by have := HBIG.out; omega)
      have e1 : IntKind.i64.wrap (dd : Int) = (dd : Int) := IntWalk.i64_in _ (by have := HDD.out; omega)
      have e2 : (dd : Int).tmod (bs.length : Int) = (k : Int) := by rw [Int.tmod_eq_emod_of_nonneg (by omega), hk]; exact (Int.natCast_emod dd bs.length).symm
      have e3 : IntKind.i64.wrap (k : Int) = (k : Int) := IntWalk.i64_in _ (by have := HBIG.out; omega)
      have l0 : ¬ (bs.length : Int) = 0 := by have := HBIG.out; omega
      have HKL := Lib.hid hkl
      have et : IntKind.i64.wrap (t : Int) = (t : Int) := IntWalk.i64_in _ (by have := HT.out; omega)
      clear hP hG hB hlt hj hk hkl
      go_wp2_with fail
      clear e1 e2
      go_loopw [11] (fun i w5 => ∃ (j : Nat) (G1 : Nat → Prop), j ≤ t ∧ i = .int .i64 (j : Int) ∧ Pw w5 g G1 m ((⟨1000, bs, false⟩ : Ws).turns (k : Int) j) ∧ (∀ i, G1 i → w.heap.size ≤ i) ∧ Below w.heap.size w w5) (fun i _ => t - (intOf i).toNat)
      case atStart => exact ⟨0, G', Nat.zero_le _, rfl, HP.out, HG.out, HB.out⟩
      case round =>
        clear HP HG HB
        obtain ⟨j, G1, hj, rfl, hP, hG, hB⟩ := hrel
        obtain ⟨s1, s2, s3, s4⟩ := turns_at (Z := 1000) (i := j) HKL.out (by have := HKL.out; have := HBIG.out; omega)
        by_cases hlt : j < t
        · obtain ⟨q, hq⟩ : ∃ q, q = j % (k + 1) := ⟨_, rfl⟩
          obtain ⟨u, hu⟩ : ∃ u, u = bs.length - 1 - k := ⟨_, rfl⟩
          obtain ⟨x, hx⟩ : ∃ x, x = u + q := ⟨_, rfl⟩
          have hqk : q ≤ k := by rw [hq]; have := Nat.mod_lt j (show k + 1 > 0 by omega); omega
          have hkl := HKL.out
          have hbig := HBIG.out
          have htt := HT.out
          obtain ⟨b, o, rfl, _⟩ := byte_at HS.out hB (show x < bs.length by omega)
          have HC := Lib.hid (fun (W : World) (h : Below w.heap.size w W) => (show W.cell? ⟨b, o + x, none⟩ = some (.int .u8 ((bs.getD x 0).toNat : Int)) by
            obtain ⟨b', o', e, hc⟩ := byte_at HS.out h (show x < bs.length by omega)
            injection e with e
            injection e with e1 e2
            subst e1 e2
            exact hc))
          have K := copy_any C (d := (k : Int)) (C.drewN hP 1) (by rw [s1]; decide) (by rw [s3]; omega) (by omega) (by omega) hG (below_drewN hB 1)
          rw [s4, ← hu, ← hq, ← hx] at K
          have HK := Lib.hid K
          have cx : wr.cell? ⟨b, o + x, none⟩ = some (.int .u8 ((bs.getD x 0).toNat : Int)) := HC.out wr hB
          obtain ⟨K1, hK1⟩ : ∃ K1 : Int, K1 = ((k + 1 : Nat) : Int) := ⟨_, rfl⟩
          have hlt' : (j : Int) < (t : Int) := by omega
          have ej : IntKind.i64.wrap ((j : Int) + 1) = (j : Int) + 1 := IntWalk.i64_in _ (by omega)
          have f1 : IntKind.i64.wrap ((k : Int) + 1) = K1 := by rw [hK1, show (k : Int) + 1 = ((k + 1 : Nat) : Int) by omega]; exact IntWalk.i64_in _ (by omega)
          have f2 : (j : Int).tmod K1 = (q : Int) := by rw [hK1, Int.tmod_eq_emod_of_nonneg (by omega), hq]; exact (Int.natCast_emod j (k + 1)).symm
          have f3 : IntKind.i64.wrap (q : Int) = (q : Int) := IntWalk.i64_in _ (by omega)
          have f4 : IntKind.i64.wrap ((bs.length : Int) - 1) = (bs.length : Int) - 1 := IntWalk.i64_in _ (by omega)
          have f5 : IntKind.i64.wrap ((bs.length : Int) - 1 - (k : Int)) = (u : Int) := by rw [show (bs.length : Int) - 1 - (k : Int) = (u : Int) by omega]; exact IntWalk.i64_in _ (by omega)
          have f6 : IntKind.i64.wrap ((u : Int) + (q : Int)) = (x : Int) := by rw [show (u : Int) + (q : Int) = (x : Int) by omega]; exact IntWalk.i64_in _ (by omega)
          have f7 : ¬ K1 = 0 := by omega
          have x0 : (0 : Int) ≤ (x : Int) := by omega
          have x1 : (x : Int) < (bs.length : Int) := by omega
          clear hP hG hB K s1 s2 s3 s4 hq hu hx hqk hkl hbig htt hK1
          generalize bs.getD x 0 = v at *
          go_wp2_with fail
          go_region_held3 (fun w' => w'.cell? ⟨b, o + x, none⟩ = some (.int .u8 (v.toNat : Int)))
            (first | assumption | go_keep)
            (first | (go_at_call 14; refine HK.out.mono ?_; rintro e w6 ⟨rfl, G6, hP, hG, hB⟩; have j0 : w6.cell? ⟨b, o + x, none⟩ = some (.int .u8 (v.toNat : Int)) := HC.out w6 hB; have HP := Lib.hid hP; have HG := Lib.hid hG; have HB := Lib.hid hB; clear hP hG hB))
          all_goals
            go_wp2_with fail
            go_roundw
            case rel => exact ⟨j + 1, G6, by omega, by go_num, HP.out, HG.out, HB.out⟩
            case measure => simp [intOf]; omega
        · obtain rfl : j = t := by omega
          have H4 : (((((⟨1000, bs, false⟩ : Ws).turns (k : Int) j)).count : Nat) : Int) = min 1000 ((bs.length : Int) + (j : Int)) := by rw [open_count s2, s1, s3]; omega
          have K4 := C.count hP (by rw [s1]; decide)
          rw [H4] at K4
          have HK4 := Lib.hid K4
          have HB := Lib.hid hB
          have f6 : IntKind.i64.wrap ((bs.length : Int) + (j : Int)) = (bs.length : Int) + (j : Int) := IntWalk.i64_in _ (by have := HBIG.out; have := HT.out; omega)
          have hirr : ¬ (j : Int) < (j : Int) := by omega
          clear hP hG hB K4 H4 s1 s2 s3 s4 hlt hj
          go_wp2_with fail
          refine HK4.out.mono ?_
          rintro e w5 ⟨rfl, k8, rfl⟩
          clear HK4
          go_wp2_with fail
          go_ret
          exact ⟨rfl, below_drewN HB.out _⟩
end Go.Proofs.Ytnokbibkjhhcoaa
