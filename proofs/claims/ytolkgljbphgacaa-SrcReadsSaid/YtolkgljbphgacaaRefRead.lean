/-
  The reference's cursor: a short number.
-/
import Derived.Test.YtolkgljbphgacaaRefNum
import Derived.Test.YtolkgljbphgacaaNumber
import Derived.Deep.Cut
namespace Go.Proofs.Ytolkgljbphgacaa
open Go.RowKit

theorem quiet_sum {P : Program} {f : FuncId} {args : Array Value} {w : World} {v : Value} {D x : Nat} (h : Calls P f args (w.drewN (D + x)) fun e w' => e = .returned v ∧ ∃ d, (w.drewN (D + x)).drewN d = w') :
    Calls P f args (w.drewN (D + x)) fun e w' => e = .returned v ∧ ∃ n, w' = w.drewN (D + n) := h.mono fun _ _ ⟨he, d, hm⟩ => ⟨he, x + d, by rw [← hm, World.drewN_drewN, Nat.add_assoc]⟩

/-- what stands behind the leading bits, when k of them were struck -/
def restK (f k : Nat) : Nat := f - (256 - 2 ^ (8 - k))
theorem lead_rest : ∀ f : Fin 256, (∀ k : Fin 8, k.val < lead f.val → 128 / 2 ^ k.val ≤ restK f.val k.val ∧ restK f.val (k.val + 1) = restK f.val k.val - 128 / 2 ^ k.val) ∧
    (lead f.val < 8 → restK f.val (lead f.val) < 128 / 2 ^ lead f.val) ∧ (lead f.val ≤ 7 → restK f.val (lead f.val) = f.val % 2 ^ (7 - lead f.val)) := by decide +kernel

theorem restK_le (f k : Nat) : restK f k ≤ f := Nat.sub_le _ _
theorem restK_zero (f : Nat) : restK f 0 = f := by simp [restK]

set_option maxHeartbeats 1000000 in
theorem curNumber_none {g : Nat} {lo : Nat → Prop} {bs : List UInt8} {k : Nat} {code : Int} {w : World} (h : Cur 30 w g lo bs k code) (hn : leftOf bs k code = []) :
    Calls Try.prog 16 #[.pointer (some ⟨g, 0, none⟩)] w fun e w' =>
      e = .returned (.int .u64 0) ∧ Cur 30 w' g lo bs k (over code 3) ∧ w.grownBy w' (some g) := by
  have hl := curLeft_any h
  rw [hn, List.length_nil] at hl
  have HL := Lib.hid hl
  have HC := Lib.hid h
  clear h hl hn
  go_enter Try.func16, Try.ntmps16
  go_wp2_with fail
  refine HL.out.mono ?_
  rintro e w1 ⟨rfl, d, rfl⟩
  go_wp2_with fail
  refine (curFail_any (HC.out.drewN _)).mono ?_
  rintro e w2 ⟨rfl, hc, hg⟩
  have HC2 := Lib.hid hc
  have HG := Lib.hid hg
  clear hc hg
  go_wp2_with fail
  go_ret
  exact ⟨rfl, HC2.out, only_of_drewN HG.out⟩

set_option maxHeartbeats 1000000 in
theorem curNumber_short {g : Nat} {lo : Nat → Prop} {bs t : List UInt8} {f : UInt8} {k : Nat} {w : World} (h : Cur 30 w g lo bs k 0) (hm : bs.length ≤ 1000000000) (hr : leftOf bs k 0 = f :: t) (hlt : t.length < lead f.toNat) :
    Calls Try.prog 16 #[.pointer (some ⟨g, 0, none⟩)] w fun e w' =>
      e = .returned (.int .u64 0) ∧ Cur 30 w' g lo bs k 3 ∧ w.grownBy w' (some g) := by
  have hl := fun d => curLeft_any (h.drewN d)
  rw [hr, List.length_cons] at hl
  have HL := Lib.hid hl
  have HC := Lib.hid h
  have hdr : bs.drop k = f :: t := by simpa [leftOf] using hr
  have hlen : bs.length - k = t.length + 1 := by rw [← List.length_drop, hdr, List.length_cons]
  obtain ⟨A, c, hB, hS, r1, r2, r3, r4⟩ := h
  have hcell := (hS.cut r3 r1)
  obtain ⟨b, o, rfl, _, hc⟩ := hS.2 (by omega)
  have hk : k < bs.length := by omega
  have hc0 : w.cell? ⟨b, o + k, none⟩ = some (.int .u8 (f.toNat : Int)) := by
    rw [hc k hk, bv_get _ _ hk]
    have : bs[k]? = some f := by rw [← Nat.add_zero k, ← List.getElem?_drop, hdr]; rfl
    simp [List.getD, this]
  have h1 : w.cell? ⟨g, 1, none⟩ = some (.int .i64 (k : Int)) := hB.cell 1
  have h0 : w.cell? ⟨g, 0, none⟩ = some (.slice (some ⟨b, o, none⟩) bs.length c) := hB.cell 0
  have hmx := r2
  unfold maxLen at hmx
  have hlr := lead_rest ⟨f.toNat, f.toNat_lt⟩
  have hf := f.toNat_lt
  have hl8 := lead_le f.toNat
  have hr0 := restK_zero f.toNat
  have hrl := restK_le f.toNat
  simp only at hlr
  generalize lead f.toNat = q at hlt hl8 hlr
  generalize f.toNat = x at hc0 hlr hf hr0 hrl
  have HLR := Lib.hid hlr
  have HR0 := Lib.hid hr0
  have f1 : (k : Int) < (bs.length : Int) := by omega
  have f2 : (0 : Int) ≤ (k : Int) := by omega
  clear hB hS r4 hc hcell hdr hr hl hlr hr0
  go_enter Try.func16, Try.ntmps16
  go_wp2_with fail
  refine (HL.out 0).mono ?_
  rintro e w1 ⟨rfl, d, rfl⟩
  go_wp2_with fail
  go_quiet (fail)
  go_wp2_with fail
  go_loop [4, 5] (fun i v => ∃ j : Nat, j ≤ q ∧ i = .int .i64 j ∧ v = .int .i64 (restK x j : Nat)) (fun i _ => q - (intOf i).toNat)
  case atStart => exact ⟨0, by omega, rfl, by rw [HR0.out]⟩
  case round =>
    obtain ⟨j, hj, rfl, rfl⟩ := hrel
    have hrj := hrl j
    by_cases hjq : j < q
    · have hs : (128 : Int) / 2 ^ j = ((128 / 2 ^ j : Nat) : Int) := by rw [cast_pow2]; exact (Int.natCast_ediv 128 (2 ^ j)).symm
      have h2 := HLR.out.1 ⟨j, by omega⟩ hjq
      simp only at h2
      have hge : ((128 / 2 ^ j : Nat) : Int) ≤ (restK x j : Int) := by omega
      have HN := Lib.hid h2.2
      have hsl : 128 / 2 ^ j ≤ 128 := Nat.div_le_self _ _
      clear h2
      generalize 128 / 2 ^ j = s at hs hge HN hsl
      generalize restK x j = y at hge HN hrj
      go_wp2_with fail
      go_round
      case rel => exact ⟨j + 1, by omega, by go_num, by rw [HN.out]; go_num⟩
      case measure => simp [intOf]; omega
    · obtain rfl : j = q := by omega
      have HL2 := Lib.hid (HL.out)
      by_cases hj8 : j < 8
      · have hs : (128 : Int) / 2 ^ j = ((128 / 2 ^ j : Nat) : Int) := by rw [cast_pow2]; exact (Int.natCast_ediv 128 (2 ^ j)).symm
        have h2 := HLR.out.2.1 hj8
        have hge : ¬ ((128 / 2 ^ j : Nat) : Int) ≤ (restK x j : Int) := by omega
        have hsl : 128 / 2 ^ j ≤ 128 := Nat.div_le_self _ _
        clear h2
        generalize 128 / 2 ^ j = s at hs hge hsl
        generalize restK x j = y at hge hrj
        go_wp2_with fail
        refine (HL.out _).mono ?_
        rintro e w1 ⟨rfl, d2, rfl⟩
        go_wp2_with fail
        refine (curFail_any (HC.out.drewN _)).mono ?_
        rintro e w2 ⟨rfl, hc, hg⟩
        have HC2 := Lib.hid hc
        have HG := Lib.hid (only_of_drewN hg)
        clear hc hg
        go_wp2_with fail
        go_ret
        exact ⟨rfl, HC2.out, HG.out⟩
      · have hj8' : ¬ (j : Int) < 8 := by omega
        go_wp2_with fail
        refine (HL.out _).mono ?_
        rintro e w1 ⟨rfl, d2, rfl⟩
        go_wp2_with fail
        refine (curFail_any (HC.out.drewN _)).mono ?_
        rintro e w2 ⟨rfl, hc, hg⟩
        have HC2 := Lib.hid hc
        have HG := Lib.hid (only_of_drewN hg)
        clear hc hg
        go_wp2_with fail
        go_ret
        exact ⟨rfl, HC2.out, HG.out⟩
set_option maxHeartbeats 1000000 in
theorem curNumber_long {g : Nat} {lo : Nat → Prop} {bs t : List UInt8} {f : UInt8} {k : Nat} {w : World} (h : Cur 30 w g lo bs k 0) (hm : bs.length ≤ 1000000000) (hr : leftOf bs k 0 = f :: t) (hlt : lead f.toNat ≤ t.length) :
    Calls Try.prog 16 #[.pointer (some ⟨g, 0, none⟩)] w fun e w' =>
      e = .returned (.int .u64 ((f.toNat % 2 ^ (7 - lead f.toNat) * 256 ^ lead f.toNat + leVal (t.take (lead f.toNat)) : Nat) : Int)) ∧ Cur 30 w' g lo bs (k + (1 + lead f.toNat)) 0 ∧ w.grownBy w' (some g) := by
  have hl := fun d => curLeft_any (h.drewN d)
  rw [hr, List.length_cons] at hl
  have HL := Lib.hid hl
  have HC := Lib.hid h
  have hdr : bs.drop k = f :: t := by simpa [leftOf] using hr
  have hlen : bs.length - k = t.length + 1 := by rw [← List.length_drop, hdr, List.length_cons]
  obtain ⟨A, c, hB, hS, r1, r2, r3, r4⟩ := h
  have HB := Lib.hid hB
  have HS := Lib.hid hS
  have HR4 := Lib.hid r4
  obtain ⟨b, o, rfl, _, hc⟩ := hS.2 (by omega)
  have hk : k < bs.length := by omega
  have hc0 : w.cell? ⟨b, o + k, none⟩ = some (.int .u8 (f.toNat : Int)) := by
    rw [hc k hk, bv_get _ _ hk]
    have : bs[k]? = some f := by rw [← Nat.add_zero k, ← List.getElem?_drop, hdr]; rfl
    simp [List.getD, this]
  have hsl : Sl w (some ⟨b, o + (k + 1), none⟩) (lead f.toNat) (bv (t.take (lead f.toNat))) := by
    have hd1 : bs.drop (k + 1) = t := by rw [← List.drop_drop, hdr]; rfl
    by_cases hck : c = k + 1
    · have hq0 : lead f.toNat = 0 := by omega
      rw [hq0]
      exact Sl.nil
    · have := (hS.cut (show k + 1 ≤ bs.length by omega) r1).first (k := lead f.toNat) (by omega)
      rw [if_neg hck, ← bv_drop, ← bv_take, hd1] at this
      exact this
  have hfz : w.frozen? ⟨g, 1, none⟩ = false := HB.out.free 1
  have h1 : w.cell? ⟨g, 1, none⟩ = some (.int .i64 (k : Int)) := hB.cell 1
  have h0 : w.cell? ⟨g, 0, none⟩ = some (.slice (some ⟨b, o, none⟩) bs.length c) := hB.cell 0
  have hmx := r2
  unfold maxLen at hmx
  have hlr := lead_rest ⟨f.toNat, f.toNat_lt⟩
  have hf := f.toNat_lt
  have hl8 := lead_le f.toNat
  have hr0 := restK_zero f.toNat
  have hrl := restK_le f.toNat
  simp only at hlr
  by_cases hck : c = k + 1
  · subst hck
    have hsl0 : Sl w (some ⟨b, o, none⟩) (lead f.toNat) (bv (t.take (lead f.toNat))) := by
      have hq0 : lead f.toNat = 0 := by omega
      rw [hq0]
      exact Sl.nil
    have HSL := Lib.hid hsl0
    clear hsl0
    generalize lead f.toNat = q at hlt hl8 hlr HSL
    generalize f.toNat = x at hc0 hlr hf hr0 hrl
    have HLR := Lib.hid hlr
    have HR0 := Lib.hid hr0
    have f1 : (k : Int) < (bs.length : Int) := by omega
    have f2 : (0 : Int) ≤ (k : Int) := by omega
    clear hsl hB hS r4 hc hdr hr hl hlr hr0
    go_enter Try.func16, Try.ntmps16
    go_wp2_with fail
    refine (HL.out 0).mono ?_
    rintro e w1 ⟨rfl, d, rfl⟩
    go_wp2_with fail
    go_quiet (fail)
    go_wp2_with fail
    go_loop [4, 5] (fun i v => ∃ j : Nat, j ≤ q ∧ i = .int .i64 j ∧ v = .int .i64 (restK x j : Nat)) (fun i _ => q - (intOf i).toNat)
    case atStart => exact ⟨0, by omega, rfl, by rw [HR0.out]⟩
    case round =>
      obtain ⟨j, hj, rfl, rfl⟩ := hrel
      have hrj := hrl j
      by_cases hjq : j < q
      · exfalso; omega
      · obtain rfl : j = q := by omega
        have g1 : IntKind.i64.wrap ((k : Int) + 1) = (k : Int) + 1 := IntWalk.i64_in _ (by omega)
        have g2 : IntKind.i64.wrap ((k : Int) + 1 + (j : Int)) = (k : Int) + 1 + (j : Int) := IntWalk.i64_in _ (by omega)
        have g3 : (0 : Int) ≤ (k : Int) + 1 := by omega
        have g4 : (k : Int) + 1 ≤ (k : Int) + 1 + (j : Int) := by omega
        have g5 : (k : Int) + 1 + (j : Int) ≤ ((k + 1 : Nat) : Int) := by omega
        by_cases hj8 : j < 8
        · have hs : (128 : Int) / 2 ^ j = ((128 / 2 ^ j : Nat) : Int) := by rw [cast_pow2]; exact (Int.natCast_ediv 128 (2 ^ j)).symm
          have h2 := HLR.out.2.1 hj8
          have hge : ¬ ((128 / 2 ^ j : Nat) : Int) ≤ (restK x j : Int) := by omega
          have hsl : 128 / 2 ^ j ≤ 128 := Nat.div_le_self _ _
          have HY := Lib.hid (HLR.out.2.2)
          clear h2
          generalize 128 / 2 ^ j = s at hs hge hsl
          generalize restK x j = y at hge hrj HY
          go_wp2_with fail
          refine (HL.out _).mono ?_
          rintro e w1 ⟨rfl, d2, rfl⟩
          go_wp2_with fail
          go_quiet ((go_at_call 51; exact quiet_sum (value_any (HSL.out.drewN _) (by omega))))
          by_cases h7 : j < 7
          · have hyl : y * 256 ^ j + 256 ^ j ≤ 72057594037927936 := by
              have hy := HY.out (by omega)
              have h1 : y + 1 ≤ 2 ^ (7 - j) := by rw [hy]; exact Nat.mod_lt _ (Nat.pow_pos (by omega))
              have h2 : (y + 1) * 256 ^ j ≤ 2 ^ (7 - j) * 256 ^ j := Nat.mul_le_mul_right _ h1
              have h3 : 2 ^ (7 - j) * 256 ^ j ≤ 2 ^ 56 := by
                rw [pow256, ← Nat.pow_add]
                exact Nat.pow_le_pow_right (by omega) (by omega)
              rw [Nat.add_mul, Nat.one_mul] at h2
              have h4 : (2 : Nat) ^ 56 = 72057594037927936 := by decide
              omega
            have hLv := leVal_take_lt t j
            have hPW := fun W => power_any (k := j) (w := W) hj8
            generalize hpe : 256 ^ j = p at hyl hLv hPW
            have hyp : (y : Int) * (p : Int) = ((y * p : Nat) : Int) := (Int.natCast_mul y p).symm
            have u1 : IntKind.u64.wrap ((y : Int) * (p : Int)) = (y : Int) * (p : Int) := by rw [hyp]; exact u64_in _ (by omega)
            have u2 : IntKind.u64.wrap ((leVal (t.take j) : Int) + (y : Int) * (p : Int)) = (leVal (t.take j) : Int) + (y : Int) * (p : Int) := by rw [hyp, ← Int.natCast_add]; exact u64_in _ (by omega)
            have HPW2 := Lib.hid hPW
            have HPE := Lib.hid hpe
            clear hPW hpe hyp
            go_wp2_with fail
            refine (HPW2.out _).mono ?_
            rintro e w2 ⟨rfl, rfl⟩
            go_wp2_with fail
            go_ret
            refine ⟨ret_int ?_, ⟨some ⟨b, o, none⟩, k + 1, ?_, (HS.out.drewN _).grown (only_setCell (World.grownBy.refl _ _) (.inl rfl) _) (fun hn b' o' e => (HR4.out hn b' o' e).2), r1, r2, by omega, HR4.out⟩, only_setCell (only_drewN (World.grownBy.refl w _) _) (.inl rfl) _⟩
            · have e1 : ((x % 2 ^ (7 - j) * 256 ^ j + leVal (t.take j) : Nat) : Int) = (leVal (t.take j) : Int) + (y : Int) * (p : Int) := by rw [← HY.out (by omega), HPE.out, Int.natCast_add, Int.natCast_mul, Int.add_comm]
              rw [← e1]
            · have hput := fun D => (HB.out.drewN D).put 1 (.int .i64 ((k + (1 + j) : Nat) : Int))
              rw [show (k : Int) + 1 + (j : Int) = ((k + (1 + j) : Nat) : Int) by omega]
              exact hput _
          · exfalso; omega
        · exfalso; omega
  · have HSL := Lib.hid hsl
    generalize lead f.toNat = q at hlt hl8 hlr HSL
    generalize f.toNat = x at hc0 hlr hf hr0 hrl
    have HLR := Lib.hid hlr
    have HR0 := Lib.hid hr0
    have f1 : (k : Int) < (bs.length : Int) := by omega
    have f2 : (0 : Int) ≤ (k : Int) := by omega
    clear hsl hB hS r4 hc hdr hr hl hlr hr0
    go_enter Try.func16, Try.ntmps16
    go_wp2_with fail
    refine (HL.out 0).mono ?_
    rintro e w1 ⟨rfl, d, rfl⟩
    go_wp2_with fail
    go_quiet (fail)
    go_wp2_with fail
    go_loop [4, 5] (fun i v => ∃ j : Nat, j ≤ q ∧ i = .int .i64 j ∧ v = .int .i64 (restK x j : Nat)) (fun i _ => q - (intOf i).toNat)
    case atStart => exact ⟨0, by omega, rfl, by rw [HR0.out]⟩
    case round =>
      obtain ⟨j, hj, rfl, rfl⟩ := hrel
      have hrj := hrl j
      by_cases hjq : j < q
      · have hs : (128 : Int) / 2 ^ j = ((128 / 2 ^ j : Nat) : Int) := by rw [cast_pow2]; exact (Int.natCast_ediv 128 (2 ^ j)).symm
        have h2 := HLR.out.1 ⟨j, by omega⟩ hjq
        simp only at h2
        have hge : ((128 / 2 ^ j : Nat) : Int) ≤ (restK x j : Int) := by omega
        have HN := Lib.hid h2.2
        have hsl : 128 / 2 ^ j ≤ 128 := Nat.div_le_self _ _
        clear h2
        generalize 128 / 2 ^ j = s at hs hge HN hsl
        generalize restK x j = y at hge HN hrj
        go_wp2_with fail
        go_round
        case rel => exact ⟨j + 1, by omega, by go_num, by rw [HN.out]; go_num⟩
        case measure => simp [intOf]; omega
      · obtain rfl : j = q := by omega
        have g1 : IntKind.i64.wrap ((k : Int) + 1) = (k : Int) + 1 := IntWalk.i64_in _ (by omega)
        have g2 : IntKind.i64.wrap ((k : Int) + 1 + (j : Int)) = (k : Int) + 1 + (j : Int) := IntWalk.i64_in _ (by omega)
        have g3 : (0 : Int) ≤ (k : Int) + 1 := by omega
        have g4 : (k : Int) + 1 ≤ (k : Int) + 1 + (j : Int) := by omega
        have g5 : (k : Int) + 1 + (j : Int) ≤ (c : Int) := by omega
        by_cases hj8 : j < 8
        · have hs : (128 : Int) / 2 ^ j = ((128 / 2 ^ j : Nat) : Int) := by rw [cast_pow2]; exact (Int.natCast_ediv 128 (2 ^ j)).symm
          have h2 := HLR.out.2.1 hj8
          have hge : ¬ ((128 / 2 ^ j : Nat) : Int) ≤ (restK x j : Int) := by omega
          have hsl : 128 / 2 ^ j ≤ 128 := Nat.div_le_self _ _
          have HY := Lib.hid (HLR.out.2.2)
          clear h2
          generalize 128 / 2 ^ j = s at hs hge hsl
          generalize restK x j = y at hge hrj HY
          go_wp2_with fail
          refine (HL.out _).mono ?_
          rintro e w1 ⟨rfl, d2, rfl⟩
          go_wp2_with fail
          go_quiet ((go_at_call 51; exact quiet_sum (value_any (HSL.out.drewN _) (by omega))))
          by_cases h7 : j < 7
          · have hyl : y * 256 ^ j + 256 ^ j ≤ 72057594037927936 := by
              have hy := HY.out (by omega)
              have h1 : y + 1 ≤ 2 ^ (7 - j) := by rw [hy]; exact Nat.mod_lt _ (Nat.pow_pos (by omega))
              have h2 : (y + 1) * 256 ^ j ≤ 2 ^ (7 - j) * 256 ^ j := Nat.mul_le_mul_right _ h1
              have h3 : 2 ^ (7 - j) * 256 ^ j ≤ 2 ^ 56 := by
                rw [pow256, ← Nat.pow_add]
                exact Nat.pow_le_pow_right (by omega) (by omega)
              rw [Nat.add_mul, Nat.one_mul] at h2
              have h4 : (2 : Nat) ^ 56 = 72057594037927936 := by decide
              omega
            have hLv := leVal_take_lt t j
            have hPW := fun W => power_any (k := j) (w := W) hj8
            generalize hpe : 256 ^ j = p at hyl hLv hPW
            have hyp : (y : Int) * (p : Int) = ((y * p : Nat) : Int) := (Int.natCast_mul y p).symm
            have u1 : IntKind.u64.wrap ((y : Int) * (p : Int)) = (y : Int) * (p : Int) := by rw [hyp]; exact u64_in _ (by omega)
            have u2 : IntKind.u64.wrap ((leVal (t.take j) : Int) + (y : Int) * (p : Int)) = (leVal (t.take j) : Int) + (y : Int) * (p : Int) := by rw [hyp, ← Int.natCast_add]; exact u64_in _ (by omega)
            have HPW2 := Lib.hid hPW
            have HPE := Lib.hid hpe
            clear hPW hpe hyp
            go_wp2_with fail
            refine (HPW2.out _).mono ?_
            rintro e w2 ⟨rfl, rfl⟩
            go_wp2_with fail
            go_ret
            refine ⟨ret_int ?_, ⟨some ⟨b, o, none⟩, c, ?_, (HS.out.drewN _).grown (only_setCell (World.grownBy.refl _ _) (.inl rfl) _) (fun hn b' o' e => (HR4.out hn b' o' e).2), r1, r2, by omega, HR4.out⟩, only_setCell (only_drewN (World.grownBy.refl w _) _) (.inl rfl) _⟩
            · have e1 : ((x % 2 ^ (7 - j) * 256 ^ j + leVal (t.take j) : Nat) : Int) = (leVal (t.take j) : Int) + (y : Int) * (p : Int) := by rw [← HY.out (by omega), HPE.out, Int.natCast_add, Int.natCast_mul, Int.add_comm]
              rw [← e1]
            · have hput := fun D => (HB.out.drewN D).put 1 (.int .i64 ((k + (1 + j) : Nat) : Int))
              rw [show (k : Int) + 1 + (j : Int) = ((k + (1 + j) : Nat) : Int) by omega]
              exact hput _
          · have hj7 : ¬ (j : Int) < 7 := by omega
            go_wp2_with fail
            go_ret
            refine ⟨ret_int ?_, ⟨some ⟨b, o, none⟩, c, ?_, (HS.out.drewN _).grown (only_setCell (World.grownBy.refl _ _) (.inl rfl) _) (fun hn b' o' e => (HR4.out hn b' o' e).2), r1, r2, by omega, HR4.out⟩, only_setCell (only_drewN (World.grownBy.refl w _) _) (.inl rfl) _⟩
            · rw [show 7 - j = 0 by omega]; simp [Nat.mod_one, Int.emod_one]
            · have hput := fun D => (HB.out.drewN D).put 1 (.int .i64 ((k + (1 + j) : Nat) : Int))
              rw [show (k : Int) + 1 + (j : Int) = ((k + (1 + j) : Nat) : Int) by omega]
              exact hput _
        · have hj8' : ¬ (j : Int) < 8 := by omega
          have hj7 : ¬ (j : Int) < 7 := by omega
          go_wp2_with fail
          refine (HL.out _).mono ?_
          rintro e w1 ⟨rfl, d2, rfl⟩
          go_wp2_with fail
          go_quiet ((go_at_call 51; exact quiet_sum (value_any (HSL.out.drewN _) (by omega))))
          go_wp2_with fail
          go_ret
          refine ⟨ret_int ?_, ⟨some ⟨b, o, none⟩, c, ?_, (HS.out.drewN _).grown (only_setCell (World.grownBy.refl _ _) (.inl rfl) _) (fun hn b' o' e => (HR4.out hn b' o' e).2), r1, r2, by omega, HR4.out⟩, only_setCell (only_drewN (World.grownBy.refl w _) _) (.inl rfl) _⟩
          · rw [show 7 - j = 0 by omega]; simp [Nat.mod_one, Int.emod_one]
          · have hput := fun D => (HB.out.drewN D).put 1 (.int .i64 ((k + (1 + j) : Nat) : Int))
            rw [show (k : Int) + 1 + (j : Int) = ((k + (1 + j) : Nat) : Int) by omega]
            exact hput _
end Go.Proofs.Ytolkgljbphgacaa
