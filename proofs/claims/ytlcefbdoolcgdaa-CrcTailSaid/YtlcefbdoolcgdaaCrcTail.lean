/-
  The law CrcTail returns true for all bytes, and leaves all that was there as it was. No condition.
-/
import Derived.Test.YtlcefbdoolcgdaaCrcAwake
import Derived.Test.YtlcefbdoolcgdaaOpen
import Derived.ProofKit
import Derived.OpenShut
import Derived.ShutString
import Derived.ChangeOld
import Derived.Below
namespace Go.Proofs.Ytlcefbdoolcgdaa.crcTail
open Go.ChangeShapes Go.WideShapes Go.ChangeAt Go.RowKit
set_option linter.unusedVariables false

theorem own : ownKnob Try.prog.godebug = none := by kernel_rfl
theorem laidOut : laidOutB Try.prog = true := by kernel_rfl

theorem info_u8 : (Try.prog.info? 5).map (fun i => (i.zero, i.size, i.bytes)) = some (some (.int .u8 0), 1, 1) := by kernel_rfl

theorem byte_cell (x : Nat) (y : Int) (h : y = ((x % 256 : Nat) : Int)) : Value.int .u8 y = .int .u8 ((UInt8.ofNat (x % 256)).toNat : Int) := by
  rw [ofNat_mod, h]
theorem four_bv (s : Nat) (h : s < 4294967296) : [Value.int .u8 ((s : Int) % 256), .int .u8 ((s : Int) / 256 % 256), .int .u8 ((s : Int) / 65536 % 256), .int .u8 ((s : Int) / 16777216)] = bv (four s) := by
  unfold four bv
  simp only [List.map_cons, List.map_nil]
  rw [← byte_cell s ((s : Int) % 256) (by omega), ← byte_cell (s / 256) ((s : Int) / 256 % 256) (by omega), ← byte_cell (s / 65536) ((s : Int) / 65536 % 256) (by omega), ← byte_cell (s / 16777216) ((s : Int) / 16777216) (by omega)]
theorem four_length (s : Nat) : (four s).length = 4 := rfl

set_option maxRecDepth 100000 in
set_option maxHeartbeats 1000000 in
theorem walk {A : Option Addr} {n c : Nat} {bs : List UInt8} {w : World} (hS : Sl w A n (bv bs)) (hn : n ≤ maxLen) :
    Calls Try.prog 7 #[.slice A n c] w fun e w' => e = .returned (.bool true) ∧ Below w.heap.size w w' := by
  unfold maxLen at hn
  obtain ⟨i, hi, hz0, hz1, hz2⟩ := info_parts info_u8
  have HS := Lib.hid hS
  clear hS
  by_cases hbig : n ≤ 32768
  · have HF := Lib.hid (sumOf_tail bs)
    have HL := Lib.hid (sumOf_lt bs)
    have hlt := sumOf_lt bs
    generalize hs : sumOf bs = s at HF HL hlt
    have HQ := Lib.hid hs
    clear hs
    go_enter Try.func7, Try.ntmps7
    go_wp2_with (go_at_call 8; refine (crcAwake_any _).mono ?_; rintro e w1 ⟨rfl, hb⟩; have HB := Lib.hid hb; clear hb)
    have K := of_any (c := c) (HS.out.below HB.out) (by omega)
    rw [HQ.out] at K
    refine K.mono ?_
    clear K
    rintro e w2 ⟨rfl, hb⟩
    have HB2 := Lib.hid (HB.out.trans (hb.mono HB.out.size))
    clear hb
    go_wp2_with (at_builtin; refine wpList_app _ rfl (.tmp 11) (.tmp 12) 22 rfl w2.heap.size 5 i _ 1 Try.underlying22 hi hz0 hz1 hz2 rfl _ 0 [] rfl (own_empty w2 (Nat.le_refl _) _) A n c (bv bs) rfl ((HS.out.below HB2.out).alloc _) (bv_one bs) (by omega) (by omega) (by simp) ?_)
    intro A1 c1 w3 ho hg
    have HB3 := Lib.hid ((HB2.out.alloc HB2.out.size _).grown hg (by have := HB2.out.size; simp; omega) (fun k e => by have := HB2.out.size; simp [Value.ownBlock] at e; omega))
    have HO := Lib.hid ho
    have hz3 : w2.heap.size ≤ w3.heap.size := by have := hg.size; simp at this; omega
    clear ho hg
    go_wp2_with (at_builtin; refine wpList_app _ rfl (.tmp 13) (.tmp 25) 22 rfl w2.heap.size 5 i _ 1 Try.underlying22 hi hz0 hz1 hz2 rfl _ n _ rfl (HO.out.alloc _) _ 4 4 _ rfl (sl_lit _ _ _ (by simp)) (by intro u hu; simp at hu; rcases hu with rfl | rfl | rfl | rfl <;> rfl) (by omega) (by omega) (by simp; omega) ?_)
    intro A2 c2 w4 ho hg
    rw [four_bv s HL.out, ← bv_append] at ho
    have HB4 := Lib.hid ((HB3.out.alloc HB3.out.size _).grown hg (by have := HB3.out.size; simp; omega) (fun k e => by have := (HO.out.lt k e).1; have := HB2.out.size; omega))
    have HO4 := Lib.hid (own_facts ho).1
    clear ho hg
    go_wp2_with fail
    have K := of_any (c := c2) HO4.out (by omega)
    rw [HF.out] at K
    refine K.mono ?_
    clear K
    rintro e w5 ⟨rfl, hb⟩
    have HB5 := Lib.hid (HB4.out.trans (hb.mono HB4.out.size))
    clear hb
    go_wp2_with fail
    go_ret
    exact ⟨rfl, HB5.out⟩
  · go_enter Try.func7, Try.ntmps7
    go_wp2_with (go_at_call 8; refine (crcAwake_any _).mono ?_; rintro e w1 ⟨rfl, hb⟩; have HB := Lib.hid hb; clear hb)
    go_ret
    exact ⟨rfl, HB.out⟩
set_option maxRecDepth 100000 in
theorem lifted (os : Os) (started : os.Started) (H : Type) (enc : TypeId × Value → H) :
    ReturnsInHanded {} Try.checked os 7 .any (Rows.crcTailSpec.pre6 enc Try.prog Try.f7 Rows.crcTailRow.domain false) (Rows.crcTailSpec.post enc Try.prog Try.f7 false true false false) := by
  refine returnsInHanded_of_change (C := Try.checked) own started (by kernel_rfl) Try.func7
    (ChangeSpec.witness6 (enc := enc) (C := Try.checked) false ⟨#[], #[.slice none 0 0], []⟩ 8 (by kernel_rfl) (by kernel_rfl) (by kernel_rfl) (by kernel_rfl)) ?_
  intro W base args ds gs before hval0 hW hcnd _
  have hval : ∀ (j : Nat) t v, Try.f7.params[j]? = some t → args[j]? = some v → Value.okWide Try.prog W .any base t v := hval0
  have hW' := hW
  obtain ⟨p, q, hA0, hV, rfl, hfz, hnd⟩ := hW
  have hA : DataW.TrodAll enc Try.prog W 0 (fun _ => true) true Try.f7.params.toList args.toList ds p := hA0
  rw [Try.params7] at hA hval
  obtain ⟨v0, vs0, d0, ds0, p0, q0, hargs, rfl, rfl, h0, r0⟩ := trodAll_cons hA
  obtain ⟨rfl, rfl, rfl⟩ := trodAll_nil r0
  obtain rfl : args = #[v0] := by cases args; simp_all
  obtain ⟨rfl, rfl⟩ := trodVars_none hV
  obtain ⟨a0, len0, cap0, rfl⟩ := okWide_slice Try.underlying22 (hval 0 22 v0 rfl rfl)
  have k0 := h0
  have lt0 : ∀ x ∈ p0, x.block < W.heap.size := by obtain ⟨m, hm⟩ := k0; exact DataW.trod_lt m _ _ _ hm
  obtain ⟨bs0, w0, hl0, hm0⟩ := open_bytes Try.underlying22 Try.underlying5 (by kernel_rfl) h0
  clear hA0 hval0
  refine (walk w0 (Nat.le_trans hl0 hm0)).mono fun e W' ⟨he, bel⟩ => ?_
  subst he
  exact ⟨_, rfl, _, _, _, [], _, [], hW', trodAll_mk1 (shut_bool Try.underlying4 _), (trodAll_cons_mk (Below.trod laidOut (by kernel_rfl) (of_decide_eq_true (by kernel_rfl)) k0 bel lt0) trodAll_mk0), rfl, bel.frame _, fun h => by cases h⟩

theorem proved : Rows.CrcTailSaid :=
  OpenClaim.holds_of_wide 7 Try.f7 rfl rfl rfl rfl rfl rfl rfl ⟨rfl, rfl, rfl, rfl, rfl⟩ rfl rfl rfl rfl rfl (by kernel_rfl) Try.func7 (by kernel_rfl)
    (of_decide_eq_true (by kernel_rfl)) (by unfold Func.isWrapper; first | (rw [if_pos (by decide +kernel)]; kernel_rfl) | (rw [if_neg (by decide +kernel)]; exact ⟨rfl, rfl⟩))
    (fun os started H enc _ => lifted os started H enc)
#print axioms proved
end Go.Proofs.Ytlcefbdoolcgdaa.crcTail
