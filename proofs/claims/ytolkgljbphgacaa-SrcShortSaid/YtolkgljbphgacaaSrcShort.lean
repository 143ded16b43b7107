/-
  The law SrcShort returns true for all bytes, and leaves all that was there as it was. No condition.
-/
import Derived.Test.YtolkgljbphgacaaAwake
import Derived.Test.YtolkgljbphgacaaOpen
namespace Go.Proofs.Ytolkgljbphgacaa.srcShort
open Go.ChangeShapes Go.WideShapes Go.ChangeAt Go.RowKit
set_option linter.unusedVariables false

theorem own : ownKnob Try.prog.godebug = none := by kernel_rfl
theorem laidOut : laidOutB Try.prog = true := by kernel_rfl

theorem lead_first : ∀ f : Fin 256, f.val = 256 - 2 ^ (8 - lead f.val) + f.val % 2 ^ (7 - lead f.val) := by decide +kernel
theorem leBytes_cons (n v : Nat) : leBytes (n + 1) v = UInt8.ofNat (v % 256) :: leBytes n (v / 256) := by
  unfold leBytes
  rw [List.range_succ_eq_map, List.map_cons, List.map_map]
  congr 1
  · simp
  · refine List.map_congr_left fun i _ => ?_
    simp only [Function.comp]
    rw [Nat.succ_eq_add_one, Nat.pow_succ, Nat.mul_comm, Nat.div_div_eq_div_mul]
theorem leBytes_leVal (l : List UInt8) (y : Nat) : leBytes l.length (leVal l + y * 256 ^ l.length) = l := by
  induction l with
  | nil => rfl
  | cons a r ih =>
    rw [List.length_cons, leBytes_cons]
    have e : leVal (a :: r) + y * 256 ^ (r.length + 1) = a.toNat + 256 * (leVal r + y * 256 ^ r.length) := by
      simp only [leVal, Nat.pow_succ, Nat.mul_add]
      have : y * (256 ^ r.length * 256) = 256 * (y * 256 ^ r.length) := by rw [Nat.mul_comm 256, Nat.mul_assoc]
      omega
    have ha := a.toNat_lt
    rw [e, show (a.toNat + 256 * (leVal r + y * 256 ^ r.length)) / 256 = leVal r + y * 256 ^ r.length by omega, ih, show (a.toNat + 256 * (leVal r + y * 256 ^ r.length)) % 256 = a.toNat by omega]
    simp

theorem short_min {bs : List UInt8} {v n : Nat} (h : shortAt bs = some (v, n)) : (shortBytes v).length ≤ n ∧ ((shortBytes v).length = n → shortBytes v = bs.take n) ∧ n ≤ bs.length ∧ v < 18446744073709551616 := by
  rcases bs with _ | ⟨f, t⟩
  · cases h
  · simp only [shortAt] at h
    by_cases hlt : t.length < lead f.toNat
    · rw [if_pos hlt] at h; cases h
    · rw [if_neg hlt] at h
      injection h with h
      injection h with hv hn
      have hq := lead_le f.toNat
      have hf := lead_first ⟨f.toNat, f.toNat_lt⟩
      simp only at hf
      generalize lead f.toNat = q at *
      have hl := leVal_take_lt t q
      have htl : (t.take q).length = q := by rw [List.length_take]; omega
      have hm : f.toNat % 2 ^ (7 - q) < 2 ^ (7 - q) := Nat.mod_lt _ (Nat.two_pow_pos _)
      have hb : v < 2 ^ (7 - q) * 256 ^ q := by
        rw [← hv]
        have : (f.toNat % 2 ^ (7 - q) + 1) * 256 ^ q ≤ 2 ^ (7 - q) * 256 ^ q := Nat.mul_le_mul_right _ hm
        rw [Nat.add_mul] at this
        omega
      have h64 : (2 : Nat) ^ (7 - q) * 256 ^ q ≤ 18446744073709551616 := by
        have : q = 0 ∨ q = 1 ∨ q = 2 ∨ q = 3 ∨ q = 4 ∨ q = 5 ∨ q = 6 ∨ q = 7 ∨ q = 8 := by omega
        rcases this with rfl | rfl | rfl | rfl | rfl | rfl | rfl | rfl | rfl <;> simp
      have hp : q < 8 → (2 : Nat) ^ (7 - q) * 256 ^ q = 2 ^ (7 * q + 7) := by
        intro h8
        rw [pow256, ← Nat.pow_add]
        congr 1
        omega
      have hfol : fol v ≤ q := by
        rcases Nat.lt_or_ge q (fol v) with h1 | h1
        · have h8 : q < 8 := by have := (fol_is v).le; omega
          have := (fol_is v).ge q h1
          rw [hp h8] at hb
          omega
        · exact h1
      refine ⟨by rw [shortBytes_length]; omega, fun he => ?_, by rw [List.length_cons]; omega, by omega⟩
      have hfq : fol v = q := by rw [shortBytes_length] at he; omega
      subst hn
      have hdiv : v / 256 ^ q = f.toNat % 2 ^ (7 - q) := by
        rw [← hv, Nat.add_comm, Nat.add_mul_div_right _ _ (Nat.pow_pos (by omega)), Nat.div_eq_of_lt hl, Nat.zero_add]
      unfold shortBytes
      rw [hfq, hdiv, ← hf, show (1 + q) = q + 1 by omega, List.take_succ_cons]
      have he2 := leBytes_leVal (t.take q) (f.toNat % 2 ^ (7 - q))
      rw [htl, Nat.add_comm, hv] at he2
      rw [he2]
      simp
theorem left_start (bs : List UInt8) : leftOf bs 0 0 = bs := by simp [leftOf]

set_option maxHeartbeats 2000000 in
theorem walk {A : Option Addr} {l c : Nat} {bs : List UInt8} {w : World} (hS : Sl w A l (bv bs)) (hl : l ≤ maxLen) (hlc : l ≤ c) :
    Calls Try.prog 6 #[.slice A l c] w fun e w' => e = .returned (.bool true) ∧ Below w.heap.size w w' := by
  unfold maxLen at hl
  obtain rfl : bs.length = l := by rw [← hS.1, bv_length]
  have HS := Lib.hid hS
  clear hS
  by_cases hbig : bs.length ≤ 1000
  · rcases hs : shortAt bs with _ | ⟨v, n⟩
    · have HSA := Lib.hid hs
      clear hs
      go_enter Try.func6, Try.ntmps6
      go_wp2_with fail
      refine (awake_any _).mono ?_
      rintro e w1 ⟨rfl, hb⟩
      have HB1 := Lib.hid hb
      clear hb
      go_wp2_with fail
      refine (new_any (HS.out.below HB1.out) (by omega)).mono ?_
      rintro e w2 ⟨g, rfl, hg, hc, hb⟩
      have hwg : w.heap.size ≤ g := Nat.le_trans HB1.out.size hg
      have HB2 := Lib.hid (below_trans HB1.out hb)
      have HC2 := Lib.hid hc
      clear hg hc hb
      go_wp2_with fail
      have hn := number_any HC2.out (by omega)
      rw [left_start, HSA.out] at hn
      refine hn.mono ?_
      clear hn
      rintro e w3 ⟨rfl, hc, hg⟩
      rw [over_zero] at hc
      have HB3 := Lib.hid (HB2.out.trans (below_of_only hg hwg HB2.out.size))
      have HC3 := Lib.hid hc
      clear hc hg
      go_wp2_with (first
        | (go_at_call 28; refine (code_any HC3.out).mono ?_; rintro e w4 ⟨rfl, rfl⟩)
        | (go_at_call 27; refine (at_any HC3.out).mono ?_; rintro e w4 ⟨rfl, rfl⟩))
      go_ret
      exact ⟨rfl, HB3.out⟩
    · obtain ⟨p1, p2, p3, p4⟩ := short_min hs
      have HSA := Lib.hid hs
      have HP2 := Lib.hid p2
      generalize hsl : (shortBytes v).length = sl at p1 HP2
      have HSL := Lib.hid hsl
      clear hs p2 hsl
      go_enter Try.func6, Try.ntmps6
      go_wp2_with fail
      refine (awake_any _).mono ?_
      rintro e w1 ⟨rfl, hb⟩
      have HB1 := Lib.hid hb
      clear hb
      go_wp2_with fail
      refine (new_any (HS.out.below HB1.out) (by omega)).mono ?_
      rintro e w2 ⟨g, rfl, hg, hc, hb⟩
      have hwg : w.heap.size ≤ g := Nat.le_trans HB1.out.size hg
      have HB2 := Lib.hid (below_trans HB1.out hb)
      have HC2 := Lib.hid hc
      clear hg hc hb
      go_wp2_with fail
      have hn := number_any HC2.out (by omega)
      rw [left_start, HSA.out] at hn
      refine hn.mono ?_
      clear hn
      rintro e w3 ⟨rfl, hc, hg⟩
      rw [Nat.zero_add] at hc
      have HB3 := Lib.hid (HB2.out.trans (below_of_only hg hwg HB2.out.size))
      have HC3 := Lib.hid hc
      clear hc hg
      go_wp2_with fail
      refine (code_any HC3.out).mono ?_
      rintro e w4 ⟨rfl, rfl⟩
      go_wp2_with fail
      have hp := putNumber_any (A := none) (n := 0) (bs := []) (c := 0) (v := v) (w := w3) Sl.nil (by omega) p4
      rw [HSL.out] at hp
      refine hp.mono ?_
      clear hp
      rintro e w5 ⟨A5, c5, rfl, ho, hb⟩
      have HC5 := Lib.hid (HC3.out.below hb)
      have HB5 := Lib.hid (HB3.out.trans (hb.mono HB3.out.size))
      have ho5 := (own_facts ho).1
      simp only [Nat.zero_add, List.nil_append] at ho5
      have HO5 := Lib.hid ho5
      have HS5 := Lib.hid (HS.out.below HB5.out)
      clear ho hb ho5
      simp only [Nat.zero_add]
      by_cases hlt : sl < n
      · go_wp2_with (go_at_call 27; refine (at_any HC5.out).mono ?_; rintro e w4 ⟨rfl, rfl⟩)
        go_ret
        exact ⟨rfl, HB5.out⟩
      · obtain rfl : sl = n := by omega
        have hF := HS5.out.first p3
        rw [← bv_take] at hF
        have hq := bytes_any (c := c5) (d := c) HO5.out hF (by omega) (by omega)
        rw [decide_eq_true (HP2.out rfl)] at hq
        have HQ := Lib.hid hq
        clear hF hq
        go_wp2_with (first
          | (go_at_call 27; refine (at_any HC5.out).mono ?_; rintro e w4 ⟨rfl, rfl⟩)
          | (go_at_call 18; refine HQ.out.mono ?_; rintro e w6 ⟨rfl, d6, rfl⟩))
        go_ret
        exact ⟨rfl, below_drewN HB5.out _⟩
  · go_enter Try.func6, Try.ntmps6
    go_wp2_with (first
      | (go_at_call 11; refine (awake_any _).mono ?_; rintro e w1 ⟨rfl, hb⟩; have HB := Lib.hid hb; clear hb))
    go_ret
    exact ⟨rfl, HB.out⟩

set_option maxRecDepth 100000 in
theorem lifted (os : Os) (started : os.Started) (H : Type) (enc : TypeId × Value → H) :
    ReturnsInHanded {} Try.checked os 6 .any (Rows.srcShortSpec.pre6 enc Try.prog Try.f6 Rows.srcShortRow.domain false) (Rows.srcShortSpec.post enc Try.prog Try.f6 false true false false) := by
  refine returnsInHanded_of_change (C := Try.checked) own started (by kernel_rfl) Try.func6
    (ChangeSpec.witness6 (enc := enc) (C := Try.checked) false ⟨#[], #[.slice none 0 0], []⟩ 8 (by kernel_rfl) (by kernel_rfl) (by kernel_rfl) (by kernel_rfl)) ?_
  intro W base args ds gs before hval0 hW hcnd _
  have hval : ∀ (j : Nat) t v, Try.f6.params[j]? = some t → args[j]? = some v → Value.okWide Try.prog W .any base t v := hval0
  have hW' := hW
  obtain ⟨p, q, hA0, hV, rfl, hfz, hnd⟩ := hW
  have hA : DataW.TrodAll enc Try.prog W 0 (fun _ => true) true Try.f6.params.toList args.toList ds p := hA0
  rw [Try.params6] at hA hval
  obtain ⟨v0, vs0, d0, ds0, p0, q0, hargs, rfl, rfl, h0, r0⟩ := trodAll_cons hA
  obtain ⟨rfl, rfl, rfl⟩ := trodAll_nil r0
  obtain rfl : args = #[v0] := by cases args; simp_all
  obtain ⟨rfl, rfl⟩ := trodVars_none hV
  obtain ⟨a0, len0, cap0, rfl⟩ := okWide_slice Try.underlying22 (hval 0 22 v0 rfl rfl)
  have k0 := h0
  have lt0 : ∀ x ∈ p0, x.block < W.heap.size := by obtain ⟨m, hm⟩ := k0; exact DataW.trod_lt m _ _ _ hm
  obtain ⟨bs, w0, hl0, hm0⟩ := open_bytes Try.underlying22 Try.underlying5 (by kernel_rfl) h0
  clear hA0 hval0
  refine (walk w0 (by omega) hl0).mono fun e W' ⟨he, bel⟩ => ?_
  subst he
  exact ⟨_, rfl, _, _, _, [], _, [], hW', trodAll_mk1 (shut_bool Try.underlying4 _), (trodAll_cons_mk (Below.trod laidOut (by kernel_rfl) (of_decide_eq_true (by kernel_rfl)) k0 bel lt0) trodAll_mk0), rfl, bel.frame _, fun h => by cases h⟩

theorem proved : Rows.SrcShortSaid :=
  OpenClaim.holds_of_wide 6 Try.f6 rfl rfl rfl rfl rfl rfl rfl ⟨rfl, rfl, rfl, rfl, rfl⟩ rfl rfl rfl rfl rfl (by kernel_rfl) Try.func6 (by kernel_rfl)
    (of_decide_eq_true (by kernel_rfl)) (by unfold Func.isWrapper; first | (rw [if_pos (by decide +kernel)]; kernel_rfl) | (rw [if_neg (by decide +kernel)]; exact ⟨rfl, rfl⟩))
    (fun os started H enc _ => lifted os started H enc)
#print axioms proved
end Go.Proofs.Ytolkgljbphgacaa.srcShort
