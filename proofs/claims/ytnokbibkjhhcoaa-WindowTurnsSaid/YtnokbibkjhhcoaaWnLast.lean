/-
  The law WindowLast, walked over what the program's window owes.
-/
import Derived.Test.YtnokbibkjhhcoaaWnMem
import Derived.BigQuiet
import Derived.IntWalk
namespace Go.Proofs.Ytnokbibkjhhcoaa
open Go.RowKit

theorem new_nat {N : Nat} (h : 1 ≤ N) : Ws.new (N : Int) = ⟨N, [], false⟩ := by unfold Ws.new; rw [show max (N : Int) 1 = (N : Int) by omega]; rfl

/-- the first j bytes are put -/
def putsTo (N : Nat) (bs : List UInt8) (j : Nat) : Ws := ⟨N, bs.take j, false⟩
theorem putsTo_next {N j : Nat} {bs : List UInt8} (h : j < bs.length) : (putsTo N bs j).put (bs.getD j 0) = putsTo N bs (j + 1) := by
  rw [open_put (by rfl)]
  unfold putsTo
  have : bs.getD j 0 = bs[j] := by simp [List.getD, h]
  rw [this, List.take_succ_eq_append_getElem h]
theorem putsTo_len {N j : Nat} {bs : List UInt8} : (putsTo N bs j).l.length ≤ bs.length := by show (bs.take j).length ≤ _; rw [List.length_take]; omega
theorem putsTo_all {N : Nat} {bs : List UInt8} : putsTo N bs bs.length = ⟨N, bs, false⟩ := by unfold putsTo; rw [List.take_length]

/-- A window is made, for which there is just enough. -/
theorem new_step {Pw : World → Nat → (Nat → Prop) → Nat → Ws → Prop} (C : WinCon Pw) {w W : World} {m N : Nat} {M : Int} (hM : MeterAt W 60 m (Quo.up ⟨M, 0, 0, 0, 0⟩) Tel.zero) (h1 : 1 ≤ N) (h2 : N ≤ 1048576) (h3 : (N : Int) ≤ M) (h4 : M ≤ 1048576) (hm : w.heap.size ≤ m) (hB : Below w.heap.size w W) :
    Calls Try.prog 8 #[.int .i64 (N : Int), .pointer (some ⟨m, 0, none⟩)] W fun x w' =>
      ∃ g G, x = .returned (.tuple #[.pointer (some ⟨g, 0, none⟩), .int .i64 0]) ∧ Pw w' g G m ⟨N, [], false⟩ ∧ (∀ i, G i → w.heap.size ≤ i) ∧ Below w.heap.size w w' := by
  have hmx : max (N : Int) 1 = (N : Int) := by omega
  obtain ⟨f1, _⟩ := mem_ok (n := (N : Int)) (mem := M) (by omega) h3
  refine (C.new (n := (N : Int)) hM (Fine.new (quo_lit (by omega))) (by omega) (by omega) (by rw [hmx]; exact f1)).mono ?_
  rintro x w' ⟨g, G, rfl, hP, _, hG, hO⟩
  rw [new_nat h1] at hP
  refine ⟨g, G, rfl, hP, fun i hi => ?_, hB.trans (hO.below hB.size (fun i hi => by omega))⟩
  have := hG i hi
  have := hB.size
  omega
theorem put_any {Pw : World → Nat → (Nat → Prop) → Nat → Ws → Prop} (C : WinCon Pw) {w W : World} {g m : Nat} {G : Nat → Prop} {s : Ws} {b : UInt8} (hP : Pw W g G m s) (hz : s.sz ≤ 1048576) (hl : s.l.length ≤ 1000000000) (hG : ∀ i, G i → w.heap.size ≤ i) (hB : Below w.heap.size w W) :
    Calls Try.prog 11 #[.pointer (some ⟨g, 0, none⟩), .int .u8 (b.toNat : Int)] W fun x w' => x = .returned (.tuple #[]) ∧ ∃ G', Pw w' g G' m (s.put b) ∧ (∀ i, G' i → w.heap.size ≤ i) ∧ Below w.heap.size w w' := by
  refine (C.put (b := b) hP hz hl).mono ?_
  rintro x w' ⟨rfl, G', hP', hN, hO⟩
  exact ⟨rfl, G', hP', con_new (Nat.le_refl _) hB hG hN, con_below (Nat.le_refl _) hB hG hO⟩
theorem copy_any {Pw : World → Nat → (Nat → Prop) → Nat → Ws → Prop} (C : WinCon Pw) {w W : World} {g m : Nat} {G : Nat → Prop} {s : Ws} {d : Int} (hP : Pw W g G m s) (hz : s.sz ≤ 1048576) (hl : s.l.length ≤ 1000000000) (h0 : -9223372036854775808 ≤ d) (h1 : d ≤ 9223372036854775807) (hG : ∀ i, G i → w.heap.size ≤ i) (hB : Below w.heap.size w W) :
    Calls Try.prog 14 #[.pointer (some ⟨g, 0, none⟩), .int .i64 d] W fun x w' => x = .returned (.int .u8 ((s.at_ d).toNat : Int)) ∧ ∃ G', Pw w' g G' m (s.copy d) ∧ (∀ i, G' i → w.heap.size ≤ i) ∧ Below w.heap.size w w' := by
  refine (C.copy (d := d) hP hz hl h0 h1).mono ?_
  rintro x w' ⟨rfl, G', hP', hN, hO⟩
  exact ⟨rfl, G', hP', con_new (Nat.le_refl _) hB hG hN, con_below (Nat.le_refl _) hB hG hO⟩

/-- a byte of the row is read, at any later world -/
theorem byte_at {w W : World} {A : Option Addr} {bs : List UInt8} {i : Nat} (hS : Sl w A bs.length (bv bs)) (hB : Below w.heap.size w W) (hi : i < bs.length) : ∃ b o, A = some ⟨b, o, none⟩ ∧ W.cell? ⟨b, o + i, none⟩ = some (.int .u8 ((bs.getD i 0).toNat : Int)) := by
  obtain ⟨b, o, e, _, hc⟩ := (hS.below hB).2 (by omega)
  exact ⟨b, o, e, by rw [hc i hi, bv_get _ _ hi]⟩

set_option maxRecDepth 100000 in
set_option maxHeartbeats 8000000 in
theorem windowLast_walk {Pw : World → Nat → (Nat → Prop) → Nat → Ws → Prop} (C : WinCon Pw) (Aw : AwakeCon7) {n0 : Nat} {A : Option Addr} {L c : Nat} {bs : List UInt8} {w : World} (hn0 : n0 < 65536) (hS : Sl w A L (bv bs)) (hL : L ≤ maxLen) :
    Calls Try.prog 4 #[.int .u16 (n0 : Int), .slice A L c] w fun e w' => e = .returned (.bool true) ∧ Below w.heap.size w w' := by
  have hbl : bs.length = L := by rw [← bv_length]; exact hS.1
  subst hbl
  unfold maxLen at hL
  have HS := Lib.hid hS
  have HL := Lib.hid hL
  clear hS
  go_enter Try.func4, Try.ntmps4
  go_wp2_with fail
  refine (Aw w).mono ?_
  rintro e w1 ⟨rfl, hb1⟩
  have HB1 := Lib.hid hb1
  clear hb1
  by_cases hbig : (bs.length : Int) > 4000
  · clear hL hn0
    go_wp2_with fail
    go_ret
    exact ⟨rfl, HB1.out⟩
  have HBIG := Lib.hid (show bs.length ≤ 4000 by omega)
  obtain ⟨r, hr⟩ : ∃ r, r = n0 % 4000 := ⟨_, rfl⟩
  obtain ⟨N, hN⟩ : ∃ N, N = 1 + r := ⟨_, rfl⟩
  have r0 : IntKind.i64.wrap (n0 : Int) = (n0 : Int) := IntWalk.i64_in _ (by omega)
  have r1 : (n0 : Int).tmod 4000 = (r : Int) := by rw [Int.tmod_eq_emod_of_nonneg (by omega)]; omega
  have r2 : IntKind.i64.wrap (r : Int) = (r : Int) := IntWalk.i64_in _ (by omega)
  have r3 : IntKind.i64.wrap (1 + (r : Int)) = (N : Int) := by rw [show 1 + (r : Int) = (N : Int) by omega]; exact IntWalk.i64_in _ (by omega)
  have HN := Lib.hid (show 1 ≤ N ∧ N ≤ 4000 by omega)
  clear hr hN hL hn0
  go_wp2_with fail
  refine (mnew_any ⟨(N : Int), 0, 0, 0, 0⟩ w1).mono ?_
  rintro e w2 ⟨m, rfl, hM, hmm, hb2⟩
  have K := Lib.hid (new_step C (w := w) (N := N) (M := (N : Int)) hM HN.out.1 (by have := HN.out; omega) (Int.le_refl _) (by have := HN.out; omega) (by have := HB1.out.size; omega) (HB1.out.trans (hb2.mono HB1.out.size)))
  clear hM hmm hb2 r0 r1 r2 r3
  go_wp2_with fail
  refine K.out.mono ?_
  rintro e w3 ⟨g, G, rfl, hP, hG, hB⟩
  have HP := Lib.hid (show Pw w3 g G m (putsTo N bs 0) from hP)
  have HG := Lib.hid hG
  have HB := Lib.hid hB
  clear hP hG hB K HB1
  go_wp2_with fail
  go_loopw [8] (fun i wr => ∃ (j : Nat) (G' : Nat → Prop), j ≤ bs.length ∧ i = .int .i64 (j : Int) ∧ Pw wr g G' m (putsTo N bs j) ∧ (∀ i, G' i → w.heap.size ≤ i) ∧ Below w.heap.size w wr) (fun i _ => bs.length - (intOf i).toNat)
  case atStart => exact ⟨0, G, Nat.zero_le _, rfl, HP.out, HG.out, HB.out⟩
  case round =>
    clear HP HG HB
    obtain ⟨j, G', hj, rfl, hP, hG, hB⟩ := hrel
    by_cases hlt : j < bs.length
    · obtain ⟨b, o, rfl, cx⟩ := byte_at HS.out hB hlt
      have K := put_any C (b := bs.getD j 0) hP (by have := HN.out; show N ≤ _; omega) (by have := putsTo_len (N := N) (j := j) (bs := bs); have := HBIG.out; omega) hG hB
      rw [putsTo_next hlt] at K
      have HK := Lib.hid K
      have hlt' : (j : Int) < (bs.length : Int) := by omega
      have j0 : (0 : Int) ≤ (j : Int) := by omega
      have ej : IntKind.i64.wrap ((j : Int) + 1) = (j : Int) + 1 := IntWalk.i64_in _ (by have := HBIG.out; omega)
      clear hP hG hB K
      generalize bs.getD j 0 = x at *
      go_wp2_with fail
      refine HK.out.mono ?_
      rintro e w4 ⟨rfl, G4, hP, hG, hB⟩
      have HP := Lib.hid hP
      have HG := Lib.hid hG
      have HB := Lib.hid hB
      clear hP hG hB HK cx
      go_wp2_with fail
      go_roundw
      case rel => exact ⟨j + 1, G4, by omega, by go_num, HP.out, HG.out, HB.out⟩
      case measure => simp [intOf]; omega
    · obtain rfl : j = bs.length := by omega
      rw [putsTo_all] at hP
      have HP := Lib.hid hP
      have HG := Lib.hid hG
      have HB := Lib.hid hB
      have hirr : ¬ (bs.length : Int) < (bs.length : Int) := by omega
      clear hP hG hB hlt hj
      go_wp2_with fail
      go_loopw [9] (fun i w5 => ∃ (d : Nat), d ≤ bs.length ∧ i = .int .i64 (d : Int) ∧ Pw w5 g G' m ⟨N, bs, false⟩ ∧ Below w.heap.size w w5) (fun i _ => bs.length - (intOf i).toNat)
      case atStart => exact ⟨0, Nat.zero_le _, rfl, HP.out, HB.out⟩
      case round =>
        clear HP HB
        obtain ⟨d, hd, rfl, hP, hB⟩ := hrel
        have HP := Lib.hid hP
        have HB := Lib.hid hB
        clear hP hB
        by_cases hlt : d < bs.length
        · obtain ⟨i, hi⟩ : ∃ i, i = bs.length - 1 - d := ⟨_, rfl⟩
          obtain ⟨b, o, rfl, cx⟩ := byte_at HS.out HB.out (show i < bs.length by omega)
          have hlt' : (d : Int) < (bs.length : Int) := by omega
          have ej : IntKind.i64.wrap ((d : Int) + 1) = (d : Int) + 1 := IntWalk.i64_in _ (by have := HBIG.out; omega)
          have e1 : IntKind.i64.wrap ((bs.length : Int) - 1) = (bs.length : Int) - 1 := IntWalk.i64_in _ (by have := HBIG.out; omega)
          have e2 : IntKind.i64.wrap ((bs.length : Int) - 1 - (d : Int)) = (i : Int) := by rw [show (bs.length : Int) - 1 - (d : Int) = (i : Int) by omega]; exact IntWalk.i64_in _ (by have := HBIG.out; omega)
          have i0 : (0 : Int) ≤ (i : Int) := by omega
          have i1 : (i : Int) < (bs.length : Int) := by omega
          have KH := fun n => C.has (d := (d : Int)) (C.drewN HP.out n) (by have := HN.out; show N ≤ _; omega) (by omega) (by have := HBIG.out; omega)
          have KA := fun n => C.at_ (d := (d : Int)) (C.drewN HP.out n) (by have := HN.out; show N ≤ _; omega) (by omega) (by have := HBIG.out; omega)
          by_cases hdn : d < N
          · have hh : (⟨N, bs, false⟩ : Ws).has (d : Int) = true := has_iff.2 ⟨rfl, by omega, by show (d : Int) < (N : Int); omega, hlt'⟩
            have ha : (⟨N, bs, false⟩ : Ws).at_ (d : Int) = bs.getD i 0 := by rw [at_has hh, hi, Int.toNat_natCast]
            rw [hh] at KH
            rw [ha] at KA
            have HKH := Lib.hid KH
            have HKA := Lib.hid KA
            have g1 : (d : Int) < (N : Int) := by omega
            have g2 : decide ((d : Int) < (N : Int)) = true := by simp [g1]
            clear KH KA hh ha hi
            generalize bs.getD i 0 = x at *
            go_wp2_with fail
            go_quiet ((first | (go_at_call 18; exact quiet_drew_at (HKH.out _)) | (go_at_call 19; exact quiet_drew_at (HKA.out _))))
            go_wp2_with fail
            go_roundw
            case rel => exact ⟨d + 1, by omega, by go_num, C.drewN HP.out _, below_drewN HB.out _⟩
            case measure => simp [intOf]; omega
          · have hh : (⟨N, bs, false⟩ : Ws).has (d : Int) = false := by
              cases h : (⟨N, bs, false⟩ : Ws).has (d : Int) with
              | false => rfl
              | true => have := (has_iff.1 h).2.2.1; have : (d : Int) < (N : Int) := this; omega
            rw [hh] at KH
            have HKH := Lib.hid KH
            have g1 : ¬ (d : Int) < (N : Int) := by omega
            have g2 : decide ((d : Int) < (N : Int)) = false := by simp; omega
            clear KH KA hh hi
            go_wp2_with fail
            go_quiet ((first | (go_at_call 18; exact quiet_drew_at (HKH.out _))))
            go_wp2_with fail
            go_roundw
            case rel => exact ⟨d + 1, by omega, by go_num, C.drewN HP.out _, below_drewN HB.out _⟩
            case measure => simp [intOf]; omega
        · obtain rfl : d = bs.length := by omega
          have hz : (⟨N, bs, false⟩ : Ws).sz ≤ 1048576 := by have := HN.out; show N ≤ _; omega
          have H1 : (⟨N, bs, false⟩ : Ws).has (bs.length : Int) = false := by
            cases h : (⟨N, bs, false⟩ : Ws).has (bs.length : Int) with
            | false => rfl
            | true => have := (has_iff.1 h).2.2.2; have : (bs.length : Int) < (bs.length : Int) := this; omega
          have H2 : (⟨N, bs, false⟩ : Ws).has (-1) = false := by
            cases h : (⟨N, bs, false⟩ : Ws).has (-1) with
            | false => rfl
            | true => have := (has_iff.1 h).2.1; omega
          have H3 : (⟨N, bs, false⟩ : Ws).has (N : Int) = false := by
            cases h : (⟨N, bs, false⟩ : Ws).has (N : Int) with
            | false => rfl
            | true => have := (has_iff.1 h).2.2.1; have : (N : Int) < (N : Int) := this; omega
          have H4 : (((⟨N, bs, false⟩ : Ws).count : Nat) : Int) = min (N : Int) (bs.length : Int) := by rw [open_count rfl]; show ((min N bs.length : Nat) : Int) = _; omega
          have K1 := C.has (d := (bs.length : Int)) HP.out hz (by omega) (by have := HBIG.out; omega)
          have K2 := C.has_at (d := -1) HP.out hz (by omega) (by omega)
          have K3 := C.has_at (d := (N : Int)) HP.out hz (by omega) (by have := HN.out; omega)
          have K4 := C.count_at HP.out hz
          rw [H1] at K1
          rw [H2] at K2
          rw [H3] at K3
          rw [H4] at K4
          have HK1 := Lib.hid K1
          have HK2 := Lib.hid K2
          have HK3 := Lib.hid K3
          have HK4 := Lib.hid K4
          clear K1 K2 K3 K4 H1 H2 H3 H4 hz hlt hd
          go_wp2_with fail
          refine HK1.out.mono ?_
          rintro e w5 ⟨rfl, k5, rfl⟩
          clear HK1
          go_wp2_with fail
          refine (HK2.out _).mono ?_
          rintro e w5 ⟨rfl, k6, rfl⟩
          clear HK2
          go_wp2_with fail
          refine (HK3.out _).mono ?_
          rintro e w5 ⟨rfl, k7, rfl⟩
          clear HK3
          go_wp2_with fail
          refine (HK4.out _).mono ?_
          rintro e w5 ⟨rfl, k8, rfl⟩
          clear HK4
          go_wp2_with fail
          go_ret
          exact ⟨rfl, below_drewN HB.out _⟩
end Go.Proofs.Ytnokbibkjhhcoaa
