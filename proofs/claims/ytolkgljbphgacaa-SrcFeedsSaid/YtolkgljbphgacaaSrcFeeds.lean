/-
  The law SrcFeeds returns true for all bytes and every number of further questions, and leaves all that was there as it was. No condition.
-/
import Derived.Test.YtolkgljbphgacaaAwake
import Derived.Test.YtolkgljbphgacaaFeed
import Derived.Test.YtolkgljbphgacaaOpen
import Derived.ProofKit
import Derived.OpenShut
import Derived.ShutString
import Derived.ChangeOld
import Derived.Below
namespace Go.Proofs.Ytolkgljbphgacaa.srcFeeds
open Go.ChangeShapes Go.WideShapes Go.ChangeAt Go.RowKit
set_option linter.unusedVariables false

theorem own : ownKnob Try.prog.godebug = none := by kernel_rfl
theorem laidOut : laidOutB Try.prog = true := by kernel_rfl

set_option maxHeartbeats 2000000 in
theorem walk {A : Option Addr} {n c : Nat} {bs : List UInt8} {m : Nat} {w : World} (hS : Sl w A n (bv bs)) (hn : n ≤ maxLen) (hm : m < 256) :
    Calls Try.prog 8 #[.slice A n c, .int .u8 (m : Int)] w fun e w' => e = .returned (.bool true) ∧ Below w.heap.size w w' := by
  unfold maxLen at hn
  obtain rfl : bs.length = n := by rw [← hS.1, bv_length]
  obtain ⟨i, hi, hz0, hz1, hz2⟩ := info_parts info_u8
  have HS := Lib.hid hS
  clear hS
  by_cases hbig : bs.length ≤ 16384
  · go_enter Try.func8, Try.ntmps8
    go_wp2_with (first
      | (go_at_call 11; refine (awake_any _).mono ?_; rintro e w1 ⟨rfl, hb⟩; have HB := Lib.hid hb; clear hb)
      | (at_builtin; refine wpList_app _ rfl (.tmp 19) (.tmp 20) 22 rfl w1.heap.size 5 i _ 1 Try.underlying22 hi hz0 hz1 hz2 rfl _ 0 [] rfl (own_empty w1 (Nat.le_refl _) _) A bs.length c (bv bs) rfl ((HS.out.below HB.out).alloc _) (bv_one bs) (by omega) (by omega) (by simp) ?_))
    intro A1 c1 w2 ho hg
    have HO := Lib.hid ho
    have HB2 := Lib.hid ((HB.out.alloc HB.out.size _).grown hg (by have := HB.out.size; simp; omega) (fun k e => by have := HB.out.size; simp [Value.ownBlock] at e; omega))
    have HG := Lib.hid (own_facts ho).2.2.2
    clear ho hg
    go_wp2_with fail
    refine (newFeed_any (own_facts HO.out).1 (by omega)).mono ?_
    rintro e w3 ⟨g, rfl, hg, hf, hb⟩
    have HO3 := Lib.hid (own_below HO.out hb)
    have HB3 := Lib.hid (HB2.out.trans (hb.mono HB2.out.size))
    have HF := Lib.hid hf
    have hwg : w.heap.size ≤ g := by have := HB2.out.size; omega
    have hwl : w.heap.size ≤ w1.heap.size := HB.out.size
    generalize w2.heap.size = lo at HF HG hg
    clear hf hb
    go_wp2_with fail
    go_loopw [7] (fun i wr => ∃ (k : Nat) (xs : List Value), k ≤ bs.length ∧ i = .int .i64 k ∧ wr.ownsRow w1.heap.size 5 1 (.slice A1 bs.length c1) bs.length xs ∧ Feed wr g lo bs 0 ∧ Below w.heap.size w wr) (fun i _ => bs.length - (intOf i).toNat)
    case atStart => exact ⟨0, _, Nat.zero_le _, rfl, HO3.out, HF.out, HB3.out⟩
    case round =>
      clear HO3 HF HB3
      obtain ⟨k, xs, hk, rfl, ho, hf, hb⟩ := hrel
      have HOr := Lib.hid ho
      have HFr := Lib.hid hf
      have HBr := Lib.hid hb
      clear ho hf hb
      by_cases hlt : k < bs.length
      · obtain ⟨gb, cap, hv, _, _⟩ := HOr.out.form (by omega)
        injection hv with hA hc
        subst hA
        have hgb := HG.out gb 0 rfl
        have hx : k < xs.length := by have := HOr.out.1; omega
        have hcell : wr.cell? ⟨gb, k, none⟩ = some xs[k] := by rw [HOr.out.cellAt k (by omega), List.getElem?_eq_getElem hx]
        have hfree := HOr.out.frozenAt k
        generalize xs[k] = y at hcell
        go_wp2
        go_roundw
        case rel => exact ⟨k + 1, _, by omega, by go_num, (HOr.out.stored k _).1, HFr.out.grown (HOr.out.stored k _).2 (by omega) (by omega), HBr.out.setCell (by simp; omega) _⟩
        case measure => simp [intOf]; omega
      · obtain rfl : k = bs.length := by omega
        have HF := HFr
        have HB3 := HBr
        clear HOr HFr HBr HG hk hlt
        go_wp2_with fail
        go_loopw [8] (fun i wr => ∃ k : Nat, k ≤ bs.length ∧ i = .int .i64 k ∧ Feed wr g lo bs k ∧ Below w.heap.size w wr) (fun i _ => bs.length - (intOf i).toNat)
        case atStart => exact ⟨0, Nat.zero_le _, rfl, HF.out, HB3.out⟩
        case round =>
          clear HF HB3
          obtain ⟨k, hk, rfl, hf, hb⟩ := hrel
          have HFr := Lib.hid hf
          have HBr := Lib.hid hb
          clear hf hb
          by_cases hlt : k < bs.length
          · obtain ⟨b, o, rfl, _, hc⟩ := HS.out.2 (by omega)
            have hcb : w.cell? ⟨b, o + k, none⟩ = some (.int .u8 ((bs.getD k 0).toNat : Int)) := by rw [hc k hlt, bv_get _ _ hlt]
            have HN := Lib.hid (next_more HFr.out hlt)
            generalize bs.getD k 0 = x at hcb HN
            have HCB := Lib.hid hcb
            have hbw := World.block_lt_of_cell? _ _ hcb
            clear hc hcb
            go_wp2_with fail
            refine HN.out.mono ?_
            rintro e w4 ⟨rfl, hf, hg4⟩
            have HB4 := Lib.hid (HBr.out.trans (below_of_only hg4 hwg HBr.out.size))
            have HF4 := Lib.hid hf
            clear hf hg4
            have hcell : w4.cell? ⟨b, o + k, none⟩ = some (.int .u8 (x.toNat : Int)) := (HB4.out.cell hbw).trans HCB.out
            go_wp2_with (go_at_call 43; refine (feedLeft_any HF4.out).mono ?_; rintro e w5 ⟨rfl, d5, rfl⟩)
            go_roundw
            case rel => exact ⟨k + 1, by omega, by go_num, HF4.out, below_drewN HB4.out _⟩
            case measure => simp [intOf]; omega
          · obtain rfl : k = bs.length := by omega
            have HF := HFr
            have HB3 := HBr
            clear HFr HBr hk hlt
            go_wp2_with fail
            go_loopw [11] (fun i wr => ∃ k : Nat, k ≤ m ∧ i = .int .i64 k ∧ Feed wr g lo bs bs.length ∧ Below w.heap.size w wr) (fun i _ => m - (intOf i).toNat)
            case atStart => exact ⟨0, Nat.zero_le _, rfl, HF.out, HB3.out⟩
            case round =>
              clear HF HB3
              obtain ⟨k, hk, rfl, hf, hb⟩ := hrel
              have HFr := Lib.hid hf
              have HBr := Lib.hid hb
              clear hf hb
              by_cases hlt : k < m
              · go_wp2_with (first
                  | (go_at_call 42; refine (next_end HFr.out).mono ?_; rintro e w5 ⟨rfl, d5, rfl⟩)
                  | (go_at_call 43; refine (feedLeft_any (HFr.out.drewN _)).mono ?_; rintro e w6 ⟨rfl, d6, rfl⟩))
                go_roundw
                case rel => exact ⟨k + 1, by omega, by go_num, HFr.out, below_drewN HBr.out _⟩
                case measure => simp [intOf]; omega
              · go_wp2
                go_ret
                exact ⟨rfl, HBr.out⟩
  · go_enter Try.func8, Try.ntmps8
    go_wp2_with (first
      | (go_at_call 11; refine (awake_any _).mono ?_; rintro e w1 ⟨rfl, hb⟩; have HB := Lib.hid hb; clear hb))
    go_ret
    exact ⟨rfl, HB.out⟩
set_option maxRecDepth 100000 in
theorem lifted (os : Os) (started : os.Started) (H : Type) (enc : TypeId × Value → H) :
    ReturnsInHanded {} Try.checked os 8 .any (Rows.srcFeedsSpec.pre6 enc Try.prog Try.f8 Rows.srcFeedsRow.domain false) (Rows.srcFeedsSpec.post enc Try.prog Try.f8 false true false false) := by
  refine returnsInHanded_of_change (C := Try.checked) own started (by kernel_rfl) Try.func8
    (ChangeSpec.witness6 (enc := enc) (C := Try.checked) false ⟨#[], #[.slice none 0 0, .int .u8 0], []⟩ 8 (by kernel_rfl) (by kernel_rfl) (by kernel_rfl) (by kernel_rfl)) ?_
  intro W base args ds gs before hval0 hW hcnd _
  have hval : ∀ (j : Nat) t v, Try.f8.params[j]? = some t → args[j]? = some v → Value.okWide Try.prog W .any base t v := hval0
  have hW' := hW
  obtain ⟨p, q, hA0, hV, rfl, hfz, hnd⟩ := hW
  have hA : DataW.TrodAll enc Try.prog W 0 (fun _ => true) true Try.f8.params.toList args.toList ds p := hA0
  rw [Try.params8] at hA hval
  obtain ⟨v0, vs0, d0, ds0, p0, q0, hargs, rfl, rfl, h0, r0⟩ := trodAll_cons hA
  obtain ⟨v1, vs1, d1, ds1, p1, q1, rfl, rfl, rfl, h1, r1⟩ := trodAll_cons r0
  obtain ⟨rfl, rfl, rfl⟩ := trodAll_nil r1
  obtain rfl : args = #[v0, v1] := by cases args; simp_all
  obtain ⟨rfl, rfl⟩ := trodVars_none hV
  obtain ⟨a0, len0, cap0, rfl⟩ := okWide_slice Try.underlying22 (hval 0 22 v0 rfl rfl)
  have k0 := h0
  have lt0 : ∀ x ∈ p0, x.block < W.heap.size := by obtain ⟨m, hm⟩ := k0; exact DataW.trod_lt m _ _ _ hm
  obtain ⟨bs, w0, hl0, hm0⟩ := open_bytes Try.underlying22 Try.underlying5 (by kernel_rfl) h0
  obtain ⟨a1, rfl, rfl, rfl, w1⟩ := open_int Try.underlying5 (hval 1 5 v1 rfl rfl) h1
  clear hA0 hval0
  have b1 := bounds_u8 w1
  obtain ⟨n1, rfl⟩ := Int.eq_ofNat_of_zero_le b1.1
  refine (walk w0 (by omega) (by omega)).mono fun e W' ⟨he, bel⟩ => ?_
  subst he
  exact ⟨_, rfl, _, _, _, [], _, [], hW', trodAll_mk1 (shut_bool Try.underlying4 _), (trodAll_cons_mk (Below.trod laidOut (by kernel_rfl) (of_decide_eq_true (by kernel_rfl)) k0 bel lt0) (trodAll_cons_mk (shut_int Try.underlying5 w1) trodAll_mk0)), rfl, bel.frame _, fun h => by cases h⟩

theorem proved : Rows.SrcFeedsSaid :=
  OpenClaim.holds_of_wide 8 Try.f8 rfl rfl rfl rfl rfl rfl rfl ⟨rfl, rfl, rfl, rfl, rfl⟩ rfl rfl rfl rfl rfl (by kernel_rfl) Try.func8 (by kernel_rfl)
    (of_decide_eq_true (by kernel_rfl)) (by unfold Func.isWrapper; first | (rw [if_pos (by decide +kernel)]; kernel_rfl) | (rw [if_neg (by decide +kernel)]; exact ⟨rfl, rfl⟩))
    (fun os started H enc _ => lifted os started H enc)
#print axioms proved
end Go.Proofs.Ytolkgljbphgacaa.srcFeeds
