/-
  The law SrcBack returns true for all numbers and every row of bits, and leaves all that was there as it was. No condition.
-/
import Derived.Test.YtolkgljbphgacaaAwake
import Derived.Test.YtolkgljbphgacaaBackPure
import Derived.Test.YtolkgljbphgacaaOpen
import Derived.Deep.RegionHeld3
namespace Go.Proofs.Ytolkgljbphgacaa.srcBack
open Go.ChangeShapes Go.WideShapes Go.ChangeAt Go.RowKit
set_option linter.unusedVariables false

theorem own : ownKnob Try.prog.godebug = none := by kernel_rfl
theorem laidOut : laidOutB Try.prog = true := by kernel_rfl

/-- numbers of 64 bits as cells -/
def nv (vs : List Nat) : List Value := vs.map fun (v : Nat) => Value.int .u64 (v : Int)
theorem nv_get (vs : List Nat) (i : Nat) (h : i < vs.length) : (nv vs)[i]? = some (.int .u64 ((vs.getD i 0 : Nat) : Int)) := by
  simp [nv, List.getD, h]

set_option maxHeartbeats 4000000 in
theorem walk {V R : Option Addr} {n c l rc : Nat} {vs : List Nat} {row : List Bool} {w : World} (hV : Sl w V n (nv vs)) (hv : ∀ v ∈ vs, v < 18446744073709551616) (hn : n ≤ maxLen)
    (hR : Sl w R l (fv row)) (hl : l ≤ maxLen) :
    Calls Try.prog 5 #[.slice V n c, .slice R l rc] w fun e w' => e = .returned (.bool true) ∧ Below w.heap.size w w' := by
  unfold maxLen at hn hl
  obtain rfl : vs.length = n := by rw [← hV.1, nv, List.length_map]
  obtain rfl : row.length = l := by rw [← hR.1, fv_length]
  have HV := Lib.hid hV
  have HR := Lib.hid hR
  have HVB := Lib.hid hv
  clear hV hR hv
  by_cases hbig : vs.length ≤ 1000 ∧ row.length ≤ 16384
  · obtain ⟨hb1, hb2⟩ := hbig
    have hel := enc_len vs
    go_enter Try.func5, Try.ntmps5
    go_wp2_with fail
    refine (awake_any _).mono ?_
    rintro e w1 ⟨rfl, hb⟩
    have HB1 := Lib.hid hb
    clear hb
    go_wp2_with fail
    go_loopw [6, 5] (fun i s wr => ∃ (k m : Nat) (A' : Option Addr) (c' : Nat), k ≤ vs.length ∧ i = .int .i64 k ∧ s = .slice A' m c' ∧ m ≤ 13 * k ∧ Sl wr A' m (bv (enc (vs.take k))) ∧ Below w.heap.size w wr) (fun i _ _ => vs.length - (intOf i).toNat)
    case atStart => exact ⟨0, 0, none, 0, Nat.zero_le _, rfl, rfl, Nat.zero_le _, by simpa [enc, bv] using Sl.nil, HB1.out⟩
    case round =>
      clear HB1
      obtain ⟨k, m, A', c', hk, rfl, rfl, hmk, hs, hb⟩ := hrel
      have HS := Lib.hid hs
      have HB := Lib.hid hb
      clear hs hb
      by_cases hlt : k < vs.length
      · obtain ⟨b, o, rfl, hbw, hc⟩ := HV.out.2 (by omega)
        have hcw : w.cell? ⟨b, o + k, none⟩ = some (.int .u64 ((vs.getD k 0 : Nat) : Int)) := by rw [hc k hlt, nv_get _ _ hlt]
        have hvv : vs.getD k 0 < 18446744073709551616 := HVB.out _ (by simp [List.getD, hlt])
        have HN := Lib.hid (take_snoc vs k hlt 0)
        have hsl := short_len (vs.getD k 0)
        generalize vs.getD k 0 = v at hcw hvv HN hsl
        have HCW := Lib.hid hcw
        clear hc hcw
        have hcell : wr.cell? ⟨b, o + k, none⟩ = some (.int .u64 (v : Int)) := (HB.out.cell hbw).trans HCW.out
        go_wp2_with fail
        refine (putNumber_any HS.out (by omega) hvv).mono ?_
        rintro e w2 ⟨A2, c2, rfl, ho, hb⟩
        have HB2 := Lib.hid (HB.out.trans (hb.mono HB.out.size))
        have HS2 := Lib.hid (own_facts ho).1
        clear ho hb hcell
        have hcell : w2.cell? ⟨b, o + k, none⟩ = some (.int .u64 (v : Int)) := (HB2.out.cell hbw).trans HCW.out
        go_wp2_with fail
        have hp := put_any (x := 4) (c := c2) HS2.out (by omega) hvv
        rw [show putM 4 v = leBytes 4 v from rfl] at hp
        refine hp.mono ?_
        clear hp
        rintro e w3 ⟨A3, c3, rfl, ho, hb⟩
        have HB3 := Lib.hid (HB2.out.trans (hb.mono HB2.out.size))
        have HS3 := Lib.hid (own_facts ho).1
        clear ho hb hcell
        simp only [leBytes_length] at *
        go_wp2
        go_roundw
        case rel =>
          refine ⟨k + 1, _, A3, c3, by omega, by go_num, rfl, by omega, ?_, HB3.out⟩
          rw [HN.out, enc_snoc]
          have hs := HS3.out
          rw [List.append_assoc] at hs
          exact hs
        case measure => simp [intOf]; omega
      · obtain rfl : k = vs.length := by omega
        have hs := HS.out
        rw [List.take_of_length_le (Nat.le_refl _)] at hs
        obtain rfl : (enc vs).length = m := by rw [← hs.1, bv_length]
        have HS0 := Lib.hid hs
        have HB0 := Lib.hid HB.out
        clear hs HS HB hmk hlt hk
        have hrl : rowLenN row.length ≤ 2048 := by unfold rowLenN; omega
        have htl := told_len row
        go_wp2_with fail
        refine (putBits_any HS0.out (by omega) (HR.out.below HB0.out) (by omega)).mono ?_
        rintro e w2 ⟨A2, c2, rfl, ho, hb⟩
        have HB2 := Lib.hid (HB0.out.trans (hb.mono HB0.out.size))
        have HS2 := Lib.hid (own_facts ho).1
        clear ho hb
        go_wp2_with fail
        refine (putTold_any HS2.out (by omega) (HR.out.below HB2.out) (by omega)).mono ?_
        rintro e w3 ⟨A3, c3, rfl, ho, hb⟩
        have HB3 := Lib.hid (HB2.out.trans (hb.mono HB2.out.size))
        have hs3 := (own_facts ho).1
        rw [List.append_assoc] at hs3
        have HS3 := Lib.hid (show Sl w3 A3 ((enc vs).length + rowLenN row.length + (toldBytes row).length) (bv (full vs row)) from hs3)
        have HFL := Lib.hid (full_length vs row)
        clear ho hb hs3
        go_wp2_with fail
        refine (new_any HS3.out (by omega)).mono ?_
        rintro e w4 ⟨g, rfl, hg, hc, hb⟩
        have hwg : w.heap.size ≤ g := Nat.le_trans HB3.out.size hg
        have HB4 := Lib.hid (HB3.out.trans (hb.mono HB3.out.size))
        have HC4 := Lib.hid hc
        clear hg hc hb HB0 HB2 HS0 HS2
        generalize w3.heap.size = lo at HC4
        go_wp2_with fail
        go_loopw [8] (fun i wr => ∃ k : Nat, k ≤ vs.length ∧ i = .int .i64 k ∧ Cur 65 wr g (lo ≤ ·) (full vs row) (enc (vs.take k)).length 0 ∧ Below w.heap.size w wr) (fun i _ => vs.length - (intOf i).toNat)
        case atStart => exact ⟨0, Nat.zero_le _, rfl, by simpa [enc] using HC4.out, HB4.out⟩
        case round =>
          clear HC4 HB4
          obtain ⟨k, hk, rfl, hc, hb⟩ := hrel
          have HC := Lib.hid hc
          have HB := Lib.hid hb
          clear hc hb
          by_cases hlt : k < vs.length
          · obtain ⟨b, o, rfl, hbw, hcv⟩ := HV.out.2 (by omega)
            have hcw : w.cell? ⟨b, o + k, none⟩ = some (.int .u64 ((vs.getD k 0 : Nat) : Int)) := by rw [hcv k hlt, nv_get _ _ hlt]
            have hvv : vs.getD k 0 < 18446744073709551616 := HVB.out _ (by simp [List.getD, hlt])
            obtain ⟨X, Y, x1, x2, x3⟩ := back_at vs row k hlt
            have hN1 : ∀ W, Cur 65 W g (lo ≤ ·) (full vs row) (enc (vs.take k)).length 0 → Calls Try.prog 15 #[.pointer (some ⟨g, 0, none⟩)] W fun e w' =>
                e = .returned (.int .u64 ((vs.getD k 0 : Nat) : Int)) ∧ Cur 65 w' g (lo ≤ ·) (full vs row) ((enc (vs.take k)).length + (shortBytes (vs.getD k 0)).length) 0 ∧ W.grownBy w' (some g) := by
              intro W h
              have hn := number_any h (by have := HFL.out; omega)
              rw [x1, short_back _ hvv] at hn
              exact hn
            have hN2 : ∀ W, Cur 65 W g (lo ≤ ·) (full vs row) ((enc (vs.take k)).length + (shortBytes (vs.getD k 0)).length) 0 → Calls Try.prog 13 #[.pointer (some ⟨g, 0, none⟩), .int .i64 4] W fun e w' =>
                e = .returned (.int .u64 ((vs.getD k 0 % 4294967296 : Nat) : Int)) ∧ Cur 65 w' g (lo ≤ ·) (full vs row) (enc (vs.take (k + 1))).length 0 ∧ W.grownBy w' (some g) := by
              intro W h
              have hn := num_ok (n := 4) h (by have := HFL.out; omega) (by omega) (by rw [x2, List.length_append, leBytes_length]; omega)
              rw [x2, le4_back, ← x3] at hn
              exact hn
            have q3 : ((vs.getD k 0 : Nat) : Int).tmod 4294967296 = ((vs.getD k 0 % 4294967296 : Nat) : Int) := by rw [IntWalk.rem_in _ _ (by omega)]; omega
            have q4 : IntKind.u64.wrap ((vs.getD k 0 % 4294967296 : Nat) : Int) = ((vs.getD k 0 % 4294967296 : Nat) : Int) := u64_in _ (by omega)
            generalize vs.getD k 0 % 4294967296 = r at hN2 q3 q4
            generalize vs.getD k 0 = v at hcw hN1 hN2 q3 hvv
            have HCW := Lib.hid hcw
            have HN1 := Lib.hid hN1
            have HN2 := Lib.hid hN2
            clear hcv hcw x1 x2 x3 hN1 hN2
            have hcell : wr.cell? ⟨b, o + k, none⟩ = some (.int .u64 (v : Int)) := (HB.out.cell hbw).trans HCW.out
            have hbg : b ≠ g := by omega
            have hi1 : (k : Int) < (vs.length : Int) := by omega
            have hi0 : (0 : Int) ≤ (k : Int) := by omega
            go_wp2_with fail
            go_region_held3 (fun w' => w'.cell? ⟨b, o + k, none⟩ = some (.int .u64 (v : Int)))
              (first | assumption | go_keep)
              (first
                | (go_at_call 15; refine (HN1.out _ (HC.out.drewN 1)).mono ?_; rintro e w5 ⟨rfl, hc, hg⟩; have HC5 := Lib.hid hc; have HG5 := Lib.hid (only_of_drewN (d := 1) hg); have hcell5 : w5.cell? ⟨b, o + k, none⟩ = some (.int .u64 (v : Int)) := (hg.cell_far ⟨b, o + k, none⟩ (by have := HB.out.size; simp; omega) (by simp; omega)).trans hcell; clear hc hg)
                | (go_at_call 13; refine (HN2.out _ HC5.out).mono ?_; rintro e w6 ⟨rfl, hc, hg⟩; have HC6 := Lib.hid hc; have HG6 := Lib.hid hg; have hcell6 : w6.cell? ⟨b, o + k, none⟩ = some (.int .u64 (v : Int)) := (hg.cell_far ⟨b, o + k, none⟩ (by have := HB.out.size; have := HG5.out.size; simp; omega) (by simp; omega)).trans hcell5; clear hc hg))
            go_wp2
            go_roundw
            case rel => exact ⟨k + 1, by omega, by go_num, HC6.out, (HB.out.trans (below_of_only HG5.out hwg HB.out.size)).trans (below_of_only HG6.out hwg (Nat.le_trans HB.out.size HG5.out.size))⟩
            case measure => simp [intOf]; omega
          · obtain rfl : k = vs.length := by omega
            have hc := HC.out
            rw [List.take_of_length_le (Nat.le_refl _)] at hc
            have HC0 := Lib.hid hc
            have HB0 := HB
            have hbit := bits_any (x := (row.length : Int)) hc (by have := HFL.out; omega) (by omega)
            rw [bits_back (back_row vs row)] at hbit
            have HBITS := Lib.hid hbit
            have HTOLD : Hid (∀ W, Cur 65 W g (lo ≤ ·) (full vs row) ((enc vs).length + rowLenN row.length) 0 → Calls Try.prog 23 #[.pointer (some ⟨g, 0, none⟩), .int .i64 (row.length : Int)] W (ToldPost W g (lo ≤ ·) (full vs row) (row, (full vs row).length, 0))) := by
              intro W h
              have ht := told_any (x := (row.length : Int)) h (by have := HFL.out; omega) (by omega)
              rw [told_back (back_told vs row)] at ht
              rw [HFL.out]
              exact ht
            clear hbit hc HC HB hlt hk
            go_wp2_with fail
            refine HBITS.out.mono ?_
            rintro e w5 ⟨A5, c5, rfl, ho, hc, hg⟩
            try simp only at ho hc
            have HB5 := Lib.hid (HB0.out.trans (below_of_only hg hwg HB0.out.size))
            have HS5 := Lib.hid (own_facts ho).1
            have HC5 := Lib.hid hc
            clear ho hc hg
            have hq1 := fun W h1 h2 => flags_any (A := A5) (B := R) (n := row.length) (m := row.length) (c := c5) (d := rc) (xs := row) (ys := row) (w := W) h1 h2 (by omega) (by omega)
            rw [decide_eq_true (rfl : row = row)] at hq1
            have HQ1 := Lib.hid hq1
            clear hq1
            go_wp2_with fail
            refine (HQ1.out _ HS5.out (HR.out.below HB5.out)).mono ?_
            rintro e w6 ⟨rfl, d6, rfl⟩
            go_wp2_with fail
            refine (HTOLD.out _ (HC5.out.drewN d6)).mono ?_
            rintro e w7 ⟨A7, c7, rfl, ho, hc, hg⟩
            try simp only at ho hc
            have hg5 := only_of_drewN hg
            have HB7 := Lib.hid (HB5.out.trans (below_of_only hg5 hwg HB5.out.size))
            have HS7 := Lib.hid (own_facts ho).1
            have HC7 := Lib.hid hc
            clear ho hc hg hg5
            have hq2 := fun W h1 h2 => flags_any (A := A7) (B := R) (n := row.length) (m := row.length) (c := c7) (d := rc) (xs := row) (ys := row) (w := W) h1 h2 (by omega) (by omega)
            rw [decide_eq_true (rfl : row = row)] at hq2
            have HQ2 := Lib.hid hq2
            clear hq2
            go_wp2_with fail
            refine (HQ2.out _ HS7.out (HR.out.below HB7.out)).mono ?_
            rintro e w8 ⟨rfl, d8, rfl⟩
            go_wp2_with fail
            have hl := left_any (HC7.out.drewN d8)
            rw [show ((leftOf (full vs row) (full vs row).length 0).length : Int) = 0 by rw [left_zero, List.drop_length]; rfl] at hl
            refine hl.mono ?_
            clear hl
            rintro e w9 ⟨rfl, d9, rfl⟩
            go_wp2_with fail
            refine (code_any (HC7.out.drewN _)).mono ?_
            rintro e w10 ⟨rfl, rfl⟩
            go_wp2_with fail
            have ha := fun W (h : Cur 65 W g (lo ≤ ·) (full vs row) (full vs row).length 0) => at_any h
            rw [HFL.out] at ha
            have HA := Lib.hid ha
            clear ha
            have hc9 := HC7.out
            rw [HFL.out] at hc9
            have HC9 := Lib.hid hc9
            clear hc9
            refine (at_any (HC9.out.drewN _)).mono ?_
            rintro e w11 ⟨rfl, rfl⟩
            go_wp2
            go_ret
            exact ⟨rfl, below_drewN HB7.out _⟩
  · have hor : (1000 < vs.length) ∨ (vs.length ≤ 1000 ∧ 16384 < row.length) := by omega
    clear hbig
    rcases hor with h | ⟨h1, h2⟩
    · go_enter Try.func5, Try.ntmps5
      go_wp2_with (first
        | (go_at_call 11; refine (awake_any _).mono ?_; rintro e w1 ⟨rfl, hb⟩; have HB := Lib.hid hb; clear hb))
      go_ret
      exact ⟨rfl, HB.out⟩
    · go_enter Try.func5, Try.ntmps5
      go_wp2_with (first
        | (go_at_call 11; refine (awake_any _).mono ?_; rintro e w1 ⟨rfl, hb⟩; have HB := Lib.hid hb; clear hb))
      go_ret
      exact ⟨rfl, HB.out⟩

set_option maxRecDepth 100000 in
theorem lifted (os : Os) (started : os.Started) (H : Type) (enc : TypeId × Value → H) :
    ReturnsInHanded {} Try.checked os 5 .any (Rows.srcBackSpec.pre6 enc Try.prog Try.f5 Rows.srcBackRow.domain false) (Rows.srcBackSpec.post enc Try.prog Try.f5 false true false false) := by
  refine returnsInHanded_of_change (C := Try.checked) own started (by kernel_rfl) Try.func5
    (ChangeSpec.witness6 (enc := enc) (C := Try.checked) false ⟨#[], #[.slice none 0 0, .slice none 0 0], []⟩ 8 (by kernel_rfl) (by kernel_rfl) (by kernel_rfl) (by kernel_rfl)) ?_
  intro W base args ds gs before hval0 hW hcnd _
  have hval : ∀ (j : Nat) t v, Try.f5.params[j]? = some t → args[j]? = some v → Value.okWide Try.prog W .any base t v := hval0
  have hW' := hW
  obtain ⟨p, q, hA0, hV, rfl, hfz, hnd⟩ := hW
  have hA : DataW.TrodAll enc Try.prog W 0 (fun _ => true) true Try.f5.params.toList args.toList ds p := hA0
  rw [Try.params5] at hA hval
  obtain ⟨v0, vs0, d0, ds0, p0, q0, hargs, rfl, rfl, h0, r0⟩ := trodAll_cons hA
  obtain ⟨v1, vs1, d1, ds1, p1, q1, rfl, rfl, rfl, h1, r1⟩ := trodAll_cons r0
  obtain ⟨rfl, rfl, rfl⟩ := trodAll_nil r1
  obtain rfl : args = #[v0, v1] := by cases args; simp_all
  obtain ⟨rfl, rfl⟩ := trodVars_none hV
  obtain ⟨a0, len0, cap0, rfl⟩ := okWide_slice Try.underlying48 (hval 0 48 v0 rfl rfl)
  have k0 := h0
  have lt0 : ∀ x ∈ p0, x.block < W.heap.size := by obtain ⟨m, hm⟩ := k0; exact DataW.trod_lt m _ _ _ hm
  obtain ⟨vs, w0, hv0, hl0, hm0⟩ := open_u64s Try.underlying48 Try.underlying33 (by kernel_rfl) h0
  obtain ⟨a1, len1, cap1, rfl⟩ := okWide_slice Try.underlying39 (hval 1 39 v1 rfl rfl)
  have k1 := h1
  have lt1 : ∀ x ∈ p1, x.block < W.heap.size := by obtain ⟨m, hm⟩ := k1; exact DataW.trod_lt m _ _ _ hm
  obtain ⟨row, w1, hl1, hm1⟩ := open_flags Try.underlying39 Try.underlying4 (by kernel_rfl) h1
  clear hA0 hval0
  refine (walk w0 hv0 (by omega) w1 (by omega)).mono fun e W' ⟨he, bel⟩ => ?_
  subst he
  exact ⟨_, rfl, _, _, _, [], _, [], hW', trodAll_mk1 (shut_bool Try.underlying4 _), (trodAll_cons_mk (Below.trod laidOut (by kernel_rfl) (of_decide_eq_true (by kernel_rfl)) k0 bel lt0) (trodAll_cons_mk (Below.trod laidOut (by kernel_rfl) (of_decide_eq_true (by kernel_rfl)) k1 bel lt1) trodAll_mk0)), rfl, bel.frame _, fun h => by cases h⟩

theorem proved : Rows.SrcBackSaid :=
  OpenClaim.holds_of_wide 5 Try.f5 rfl rfl rfl rfl rfl rfl rfl ⟨rfl, rfl, rfl, rfl, rfl⟩ rfl rfl rfl rfl rfl (by kernel_rfl) Try.func5 (by kernel_rfl)
    (of_decide_eq_true (by kernel_rfl)) (by unfold Func.isWrapper; first | (rw [if_pos (by decide +kernel)]; kernel_rfl) | (rw [if_neg (by decide +kernel)]; exact ⟨rfl, rfl⟩))
    (fun os started H enc _ => lifted os started H enc)
#print axioms proved
end Go.Proofs.Ytolkgljbphgacaa.srcBack
