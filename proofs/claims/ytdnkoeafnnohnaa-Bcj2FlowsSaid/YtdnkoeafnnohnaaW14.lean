/-
  B2Ref: put together.
-/
import Derived.Test.YtdnkoeafnnohnaaW04
import Derived.LoopTactic
import Derived.Deep.CutRange
import Derived.Deep.CutBlock
import Derived.Deep.RegionLaw
set_option linter.unusedVariables false
set_option linter.unusedSimpArgs false
/-
  The document's decoder of four streams: the walk.
-/
namespace Go.Proofs.Ytdnkoeafnnohnaa
open Go.RowKit

theorem wrap_succ {n : Nat} (h : n < 1000000000) : wrap64 ((n : Int) + 1) = ((n + 1 : Nat) : Int) := by rw [show (n : Int) + 1 = ((n + 1 : Nat) : Int) by omega]; exact IntWalk.wrap64_in _ (by omega)
theorem app_fits {n m : Nat} (h : n < 1000000000) (hm : m < 1000) : (n + m) * 1 ≤ 140737488355328 := by omega
theorem bitD_zero' {d : Dc} {p : Nat} (h : (bitD d p).2.2 = none) : (bitD d p).1 = 0 := by
  cases d with
  | none => rfl
  | some x =>
    obtain ⟨r, c, s⟩ := x
    by_cases hc : c < r / 2048 * p
    · have e : bitD (some (r, c, s)) p = (0, up0 p, lvl (r / 2048 * p) c s) := if_pos hc
      rw [e]
    · have e : bitD (some (r, c, s)) p = (match lvl (r - r / 2048 * p) (c - r / 2048 * p) s with
        | none => (0, up1 p, none)
        | some t => (1, up1 p, some t)) := if_neg hc
      rw [e] at h ⊢
      cases hl : lvl (r - r / 2048 * p) (c - r / 2048 * p) s with
      | none => rfl
      | some t => rw [hl] at h; cases h
/-- a target's cells, as the document puts them -/
def tc (T : Nat) : Array Value := #[Value.int .u8 ((T : Int) % 256), Value.int .u8 ((wrap64 ((T : Int) / 256)).tmod 256 % 256), Value.int .u8 ((wrap64 ((T : Int) / 65536)).tmod 256 % 256), Value.int .u8 (wrap64 ((T : Int) / 16777216) % 256)]
theorem tc_one (T : Nat) : ∀ u ∈ (#[Value.int .u8 ((T : Int) % 256), Value.int .u8 ((wrap64 ((T : Int) / 256)).tmod 256 % 256), Value.int .u8 ((wrap64 ((T : Int) / 65536)).tmod 256 % 256), Value.int .u8 (wrap64 ((T : Int) / 16777216) % 256)] : Array Value).toList, u.oneCell' = true := by
  intro u hu
  simp only [List.mem_cons, List.not_mem_nil, or_false] at hu
  rcases hu with rfl | rfl | rfl | rfl <;> rfl
theorem tc_is {T : Nat} (h : T < 4294967296) : (tc T).toList = bv (leB T 4) := by
  have w1 : wrap64 ((T : Int) / 256) = ((T / 256 : Nat) : Int) := by rw [show (T : Int) / 256 = ((T / 256 : Nat) : Int) by omega]; exact IntWalk.wrap64_in _ (by omega)
  have w2 : wrap64 ((T : Int) / 65536) = ((T / 65536 : Nat) : Int) := by rw [show (T : Int) / 65536 = ((T / 65536 : Nat) : Int) by omega]; exact IntWalk.wrap64_in _ (by omega)
  have w3 : wrap64 ((T : Int) / 16777216) = ((T / 16777216 : Nat) : Int) := by rw [show (T : Int) / 16777216 = ((T / 16777216 : Nat) : Int) by omega]; exact IntWalk.wrap64_in _ (by omega)
  unfold tc
  rw [w1, w2, w3]
  clear w1 w2 w3
  have e0 : ∀ n : Nat, ((UInt8.ofNat (n % 256)).toNat : Int) = ((n % 256 : Nat) : Int) := fun n => by simp
  have m1 : ∀ n : Nat, ((n : Int)).tmod 256 = ((n % 256 : Nat) : Int) := fun n => by rw [Int.tmod_eq_emod_of_nonneg (by omega)]; omega
  have q0 : (T : Int) % 256 = ((T % 256 : Nat) : Int) := by omega
  have q1 : ((T / 256 : Nat) : Int).tmod 256 % 256 = ((T / 256 % 256 : Nat) : Int) := by rw [m1]; omega
  have q2 : ((T / 65536 : Nat) : Int).tmod 256 % 256 = ((T / 256 / 256 % 256 : Nat) : Int) := by rw [m1, Nat.div_div_eq_div_mul]; omega
  have q3 : ((T / 16777216 : Nat) : Int) % 256 = ((T / 256 / 256 / 256 % 256 : Nat) : Int) := by rw [Nat.div_div_eq_div_mul, Nat.div_div_eq_div_mul]; omega
  rw [q0, q1, q2, q3]
  simp only [leB, bv, List.map_cons, List.map_nil, e0]
theorem last_is {T : Nat} (a : Nat) : lastB a T 4 = T / 256 / 256 / 256 % 256 := rfl
theorem leB_three (T : Nat) : (leB T 4).getD 3 0 = UInt8.ofNat (T / 256 / 256 / 256 % 256) := rfl
theorem goR_end {size : Nat} {m : List UInt8} {k : K2} {out : List UInt8} {a : Nat} (h : size ≤ out.length) : goR size m k out a = if (m.isEmpty && k.ends) = true then some out else none := by
  cases m with
  | nil => unfold goR; rw [if_pos h]; rfl
  | cons b m => unfold goR; rw [if_pos h]; rfl
theorem goR_stop {size : Nat} {m : List UInt8} {k : K2} {out : List UInt8} {a : Nat} (h : size ≤ out.length) (hn : m ≠ [] ∨ k.c ≠ [] ∨ k.j ≠ [] ∨ end2 k.d = false) : goR size m k out a = none := by
  rw [goR_end h, if_neg]
  unfold K2.ends
  simp only [Bool.and_eq_true, List.isEmpty_iff]
  rintro ⟨h1, ⟨h2, h3⟩, h4⟩
  rcases hn with hn | hn | hn | hn
  · exact hn h1
  · exact hn h2
  · exact hn h3
  · rw [h4] at hn; cases hn
theorem drop_ne {l : List UInt8} {n : Nat} (h : n ≤ l.length) (hn : n ≠ l.length) : l.drop n ≠ [] := fun e => by
  have := List.drop_eq_nil_iff.1 e
  omega
theorem end2_code {r k : Nat} {s : List UInt8} (h : ¬ k = 0) : end2 (some (r, k, s)) = false := by
  match k, h with
  | k + 1, _ => rfl
theorem end2_rest {r : Nat} {s : List UInt8} (h : s ≠ []) : end2 (some (r, 0, s)) = false := by
  match s, h with
  | [], h => exact absurd rfl h
  | _ :: _, _ => rfl
theorem lt_toNat {size : Int} {n : Nat} : ((n : Int) < size) ↔ n < size.toNat := by omega
theorem drop_getD {l : List UInt8} {i : Nat} (h : i < l.length) : l.drop i = l.getD i 0 :: l.drop (i + 1) := by
  rw [List.drop_eq_getElem_cons h]
  simp [List.getD, h]

theorem bitB_no {size : Nat} {k : K2} {out : List UInt8} {i a v q : Nat} (h : (v, q, none) = bitD k.d (k.ps.getD i 0)) : bitB size k out i a = none := by
  unfold bitB
  rw [← h]
theorem bitB_nought {size : Nat} {k : K2} {out : List UInt8} {i a q : Nat} {d : Nat × Nat × List UInt8} (h : (0, q, some d) = bitD k.d (k.ps.getD i 0)) : bitB size k out i a = some (⟨k.c, k.j, some d, k.ps.set i q⟩, out, a) := by
  unfold bitB
  rw [← h]
def pl4 (a b c e : UInt8) : Nat := ((a.toNat * 256 + b.toNat) * 256 + c.toNat) * 256 + e.toNat
def g4 (l : List UInt8) (n : Nat) : Nat := pl4 (l.getD n 0) (l.getD (n + 1) 0) (l.getD (n + 2) 0) (l.getD (n + 3) 0)
def outB (size : Nat) (k : K2) (out : List UInt8) (a p : Nat) : Option (K2 × List UInt8 × Nat) :=
  if size < out.length + 4 then none else some (k, out ++ leB (tgt p out.length) 4, lastB a (tgt p out.length) 4)
theorem take4_drop {l : List UInt8} {n : Nat} (h : n + 4 ≤ l.length) : take4 (l.drop n) = some (g4 l n, l.drop (n + 4)) := by
  rw [drop_getD (show n < l.length by omega), drop_getD (show n + 1 < l.length by omega), drop_getD (show n + 2 < l.length by omega), drop_getD (show n + 3 < l.length by omega)]
  rfl
theorem take4_short {l : List UInt8} {n : Nat} (h : l.length < n + 4) : take4 (l.drop n) = none := by
  have hl : (l.drop n).length < 4 := by rw [List.length_drop]; omega
  match hh : l.drop n, hl with
  | [], _ => rfl
  | [_], _ => rfl
  | [_, _], _ => rfl
  | [_, _, _], _ => rfl
  | a :: b :: c :: e :: t, hl => exact absurd hl (by simp)

theorem bitB_call {size : Nat} {lc lj : List UInt8} {d0 : Dc} {ps : List Nat} {out : List UInt8} {i a q n : Nat} {d : Nat × Nat × List UInt8} (h : (1, q, some d) = bitD d0 (ps.getD i 0)) (hi : i < 256) (hn : n + 4 ≤ lc.length) :
    bitB size ⟨lc.drop n, lj, d0, ps⟩ out i a = outB size ⟨lc.drop (n + 4), lj, some d, ps.set i q⟩ out a (g4 lc n) := by
  unfold bitB
  simp only [← h, if_pos hi, take4_drop hn]
  rfl
theorem bitB_jump {size : Nat} {lc lj : List UInt8} {d0 : Dc} {ps : List Nat} {out : List UInt8} {i a q n : Nat} {d : Nat × Nat × List UInt8} (h : (1, q, some d) = bitD d0 (ps.getD i 0)) (hi : ¬ i < 256) (hn : n + 4 ≤ lj.length) :
    bitB size ⟨lc, lj.drop n, d0, ps⟩ out i a = outB size ⟨lc, lj.drop (n + 4), some d, ps.set i q⟩ out a (g4 lj n) := by
  unfold bitB
  simp only [← h, if_neg hi, take4_drop hn]
  rfl
theorem bitB_call_no {size : Nat} {lc lj : List UInt8} {d0 : Dc} {ps : List Nat} {out : List UInt8} {i a q n : Nat} {d : Nat × Nat × List UInt8} (h : (1, q, some d) = bitD d0 (ps.getD i 0)) (hi : i < 256) (hn : lc.length < n + 4) :
    bitB size ⟨lc.drop n, lj, d0, ps⟩ out i a = none := by
  unfold bitB
  simp only [← h, if_pos hi, take4_short hn]
  split <;> rfl
theorem bitB_jump_no {size : Nat} {lc lj : List UInt8} {d0 : Dc} {ps : List Nat} {out : List UInt8} {i a q n : Nat} {d : Nat × Nat × List UInt8} (h : (1, q, some d) = bitD d0 (ps.getD i 0)) (hi : ¬ i < 256) (hn : lj.length < n + 4) :
    bitB size ⟨lc, lj.drop n, d0, ps⟩ out i a = none := by
  unfold bitB
  simp only [← h, if_neg hi, take4_short hn]
  split <;> rfl

/-- what the document's Decode leaves, and that its row is new -/
def RdPostN (w : World) (ans : Option (List UInt8)) (e : Ending) (w' : World) : Prop :=
  Below w.heap.size w w' ∧ ((ans = none ∧ e = .returned (.tuple #[.slice none 0 0, .int .i64 12])) ∨
    (∃ out O co, ans = some out ∧ e = .returned (.tuple #[.slice O out.length co, .int .i64 0]) ∧ Sl w' O out.length (bv out) ∧ ∀ q o, O = some ⟨q, o, none⟩ → w.heap.size ≤ q))

set_option maxRecDepth 100000 in
set_option maxHeartbeats 16000000 in
theorem rdecode_new {w : World} {A : Nat → Option Addr} {c : Nat → Nat} {l : Nat → List UInt8} {size : Int} {ans : Option (List UInt8)} (hF : FourOk w A c l)
    (hans : ans = goR size.toNat (l 0) ⟨l 1, l 2, started (l 3), List.replicate 258 1024⟩ [] 0) :
    Calls Try.prog 10 #[.agg (fourA A c l), .int .i64 size] w (RdPostN w ans) := by
  obtain ⟨i8, hi8, hz0, hz1, hz2⟩ := info_parts info_u8
  obtain ⟨wb, hwb⟩ : ∃ wb, wb = w.alloc (.cells (fourA A c l) 24) := ⟨_, rfl⟩
  have hb1 : Below w.heap.size w wb := by rw [hwb]; exact (Below.refl _ _).alloc (Nat.le_refl _) _
  have hB1 : Blk wb w.heap.size 24 (fourA A c l) := by rw [hwb]; exact Blk.fresh _ _ _
  have hs1 : w.heap.size < wb.heap.size := hB1.lt
  have c3 : wb.cell? ⟨w.heap.size, 3, none⟩ = some (.slice (A 3) (l 3).length (c 3)) := hB1.cell 3
  have KN := Lib.hid (refnew_any (c := c 3) rfl ((hF.sl 3 (by decide)).below hb1) (by have := hF.len 3 (by decide); omega))
  have KF := Lib.hid (fun W => (show Calls Try.prog 20 #[.int .i64 258] W (fun e w' => ∃ A' c', e = .returned (.slice A' 258 c') ∧ w'.ownsRow W.heap.size 46 1 (.slice A' 258 c') 258 (pv (List.replicate 258 1024)) ∧ Below W.heap.size W w') from reffresh_any (n := 258) (by decide) W))
  have HH := Lib.hid (And.intro hF (And.intro hb1 (And.intro hB1 hs1)))
  have HW := Lib.hid hwb
  have HANS := Lib.hid hans
  unfold fourA at hwb
  have HWL := Lib.hid hwb
  clear hF hb1 hB1 hs1 hwb hans
  unfold fourA
  go_enter Try.func10, Try.ntmps10
  go_upto_region 1 with fail
  rw [← HWL.out]
  clear HWL HW
  go_wp2_with fail
  refine KN.out.mono ?_
  rintro e w1 ⟨rfl, hr1, hb2⟩
  have HR := Lib.hid (And.intro hr1 hb2)
  clear hr1 hb2 KN c3
  go_wp2_with fail
  refine (KF.out _).mono ?_
  rintro e w2 ⟨A', c', rfl, ho, hb3⟩
  obtain ⟨b, pc, hv, hbb, hblt⟩ := ho.form (by decide)
  injection hv with hA hc
  subst hA
  have h258 : (List.replicate 258 1024).length = 258 := List.length_replicate
  have hR0 : R15 w w2 A c l wb.heap.size b c' none 0 (List.replicate 258 1024) (started (l 3)) [] := by
    obtain ⟨hF, hb1, hB1, hs1⟩ := HH.out
    obtain ⟨hr1, hb2⟩ := HR.out
    have hO2 := Only.of_below (S := fun _ => False) hb2
    have hO3 := Only.of_below (S := fun _ => False) hb3
    have hlt := hr1.lt
    refine ⟨hF, (hb1.trans (hb2.mono (Nat.le_of_lt hs1))).trans (hb3.mono (Nat.le_trans (Nat.le_of_lt hs1) hb2.size)), (hB1.only hO2 (fun h => h)).only hO3 (fun h => h), hr1.only hO3 (fun h => h), ?_, World.ownsRow_nil _ _ _ 1, ⟨hs1, by omega, by omega⟩, fun q hq => (by cases hq), dcOk_started _, fun p hp => by rw [List.eq_of_mem_replicate hp]; exact pOk_fresh, h258⟩
    unfold Row
    rw [h258]
    exact own_mono ho (Nat.zero_le _)
  have HR0 := Lib.hid hR0
  clear hR0 hbb hblt ho hb3 hc h258 HR KF HH
  generalize wb.heap.size = g at *
  go_wp2_with fail
  go_loopw [8, 9, 10, 11, 12] (fun o i cc jj a wr => ∃ (out : List UInt8) (O : Option Addr) (co iN cN jN aN : Nat) (d : Dc) (ps : List Nat), o = .slice O out.length co ∧ i = .int .i64 (iN : Int) ∧ cc = .int .i64 (cN : Int) ∧ jj = .int .i64 (jN : Int) ∧ a = .int .u8 (aN : Int) ∧
      R15 w wr A c l g b c' O co ps d out ∧ iN ≤ (l 0).length ∧ cN ≤ (l 1).length ∧ jN ≤ (l 2).length ∧ aN < 256 ∧ out.length = iN + cN + jN ∧
      ans = goR size.toNat ((l 0).drop iN) ⟨(l 1).drop cN, (l 2).drop jN, d, ps⟩ out aN) (fun _ i _ _ _ _ => (l 0).length - (intOf i).toNat)
  case atStart => exact ⟨[], none, 0, 0, 0, 0, 0, _, _, rfl, rfl, rfl, rfl, rfl, HR0.out, Nat.zero_le _, Nat.zero_le _, Nat.zero_le _, by decide, rfl, HANS.out⟩
  case round =>
    obtain ⟨out, O, co, iN, cN, jN, aN, d, ps, rfl, rfl, rfl, rfl, rfl, hR, hi, hc, hj, ha, hl, hans⟩ := hrel
    clear HR0 HANS
    have HJ := Lib.hid (And.intro hR (And.intro hi (And.intro hc (And.intro hj (And.intro ha (And.intro hl hans))))))
    obtain ⟨x0, x1, x2, x3⟩ := hR.fld
    by_cases hlt : out.length < size.toNat
    · have hlt' : (out.length : Int) < size := lt_toNat.2 hlt
      by_cases him : iN < (l 0).length
      · obtain ⟨q, o, e0, hq, hcell⟩ := (hR.sl (i := 0) (by decide)).2 (by omega)
        have cx : wr.cell? ⟨q, o + iN, none⟩ = some (.int .u8 (((l 0).getD iN 0).toNat : Int)) := by rw [hcell iN him, bv_get _ _ him]
        have hdg := drop_getD him
        obtain ⟨bx, hbx⟩ : ∃ bx, bx = (l 0).getD iN 0 := ⟨_, rfl⟩
        rw [← hbx] at cx hdg
        have hxl := bx.toNat_lt
        have hone : bv [bx] = [.int .u8 (bx.toNat : Int)] := rfl
        have hgo : ans = match aftB size.toNat ⟨(l 1).drop cN, (l 2).drop jN, d, ps⟩ (out ++ [bx]) aN bx.toNat with
            | none => none
            | some (k', o', a') => goR size.toNat ((l 0).drop (iN + 1)) k' o' a' := by
          rw [hans, hdg]
          conv => lhs; unfold goR
          rw [if_neg (by omega)]
          rfl
        have HGO := Lib.hid hgo
        obtain ⟨xv, hxv⟩ : ∃ xv, xv = bx.toNat := ⟨_, rfl⟩
        rw [← hxv] at cx hxl hone
        have HXV := Lib.hid hxv
        rw [e0] at x0
        have hi0 : (0 : Int) ≤ (iN : Int) := by omega
        have hi1 : (iN : Int) < ((l 0).length : Int) := by omega
        have hi2 : ¬ (iN : Int) ≥ ((l 0).length : Int) := by omega
        have hln := hR.four.len 0 (by decide)
        have HEI := Lib.hid (wrap_succ (n := iN) (by omega))
        have KW := Lib.hid (fun W => which_any (a := aN) (x := xv) ha hxl W)
        have HOW := Lib.hid hR.own
        have HB := Lib.hid hR.bel.size
        have HLT := Lib.hid (And.intro hlt him)
        have HXL := Lib.hid hxl
        have hm49 : out.length ≤ 49200 := by
          have h1 := hR.four.len 1 (by decide)
          have h2 := hR.four.len 2 (by decide)
          omega
        clear hR hi hc hj ha hl hans hgo hdg hbx hq hcell hlt him hxv hln x1 x2 x3 hxl
        have HX0 := Lib.hid e0
        clear e0
        have hap := app_fits (n := out.length) (m := 1) (by omega) (by omega)
        have hbs : w.heap.size ≤ (wr.alloc (.cells #[.int .u8 (xv : Int)] 5)).heap.size := by have := HB.out; simp; omega
        clear hm49
        have ei := HEI.out
        clear HEI
        go_wp2_with (first
          | (at_builtin; refine wpList_appO _ rfl (.tmp 39) (.tmp 41) 22 rfl w.heap.size 5 i8 _ 1 Try.underlying22 hi8 hz0 hz1 hz2 rfl _ out.length (bv out) rfl (HOW.out.alloc _) _ 1 1 [.int .u8 (xv : Int)] rfl (sl_one _ _ _) (one_one _ _) hap (by decide) hbs ?_)
          | fail)
        clear ei
        intro O3 co3 w3 ho3 hg3 hv3
        have hR3 := HJ.out.1.app (x := [bx]) ((Below.refl _ wr).alloc (Nat.le_refl _) (.cells #[.int .u8 (xv : Int)] 5)) (O' := O3) (co' := co3) (w' := w3) (by rw [bv_append, List.length_append, hone]; exact ho3) hg3 (by simpa using hv3)
        have HR3 := Lib.hid hR3
        clear ho3 hg3 hv3 hR3 cx hone
        go_wp2_with fail
        refine (KW.out _).mono ?_
        rintro e w4 ⟨rfl, rfl⟩
        clear KW
        have hle : (out ++ [bx]).length = out.length + 1 := by simp
        cases hm : mark aN xv with
        | none =>
          as_aux_lemma =>
            have hmk : markI aN xv = -1 := by unfold markI; rw [hm]
            rw [hmk]
            have HG2 := Lib.hid (show ans = goR size.toNat ((l 0).drop (iN + 1)) ⟨(l 1).drop cN, (l 2).drop jN, d, ps⟩ (out ++ [bx]) xv by
              have h := HGO.out
              unfold aftB at h
              rw [← HXV.out, hm] at h
              exact h)
            clear hm hmk HGO
            go_wp2_with fail
            go_roundw
            case rel =>
              obtain ⟨hR, hi, hc, hj, ha, hl, _⟩ := HJ.out
              exact ⟨out ++ [bx], O3, co3, iN + 1, cN, jN, xv, d, ps, by rw [hle], by go_num, rfl, rfl, rfl, HR3.out, by have := HLT.out.2; omega, hc, hj, HXL.out, by rw [hle]; omega, HG2.out⟩
            case measure => have := HLT.out.2; simp [intOf]; omega
        | some ix =>
          have hix := mark_lt HJ.out.2.2.2.2.1 hm
          have hmk : markI aN xv = (ix : Int) := by unfold markI; rw [hm]
          rw [hmk]
          have hk0 : ¬ (ix : Int) < 0 := by omega
          by_cases he : (out ++ [bx]).length = size.toNat
          · as_aux_lemma =>
              have HG2 := Lib.hid (show ans = goR size.toNat ((l 0).drop (iN + 1)) ⟨(l 1).drop cN, (l 2).drop jN, d, ps⟩ (out ++ [bx]) xv by
                have h := HGO.out
                unfold aftB at h
                rw [← HXV.out, hm] at h
                simp only [] at h
                rw [if_pos he] at h
                exact h)
              have he1 : (((out.length : Int) + 1) == size) = true := by simp; rw [hle] at he; omega
              clear hm hmk HGO he hix
              go_wp2_with fail
              go_roundw
              case rel =>
                obtain ⟨hR, hi, hc, hj, ha, hl, _⟩ := HJ.out
                exact ⟨out ++ [bx], O3, co3, iN + 1, cN, jN, xv, d, ps, by rw [hle], by go_num, rfl, rfl, rfl, HR3.out, by have := HLT.out.2; omega, hc, hj, HXL.out, by rw [hle]; omega, HG2.out⟩
              case measure => have := HLT.out.2; simp [intOf]; omega
          · have HG2 := Lib.hid (show ans = match bitB size.toNat ⟨(l 1).drop cN, (l 2).drop jN, d, ps⟩ (out ++ [bx]) ix xv with
              | none => none
              | some (k', o', a') => goR size.toNat ((l 0).drop (iN + 1)) k' o' a' by
              have h := HGO.out
              unfold aftB at h
              rw [← HXV.out, hm] at h
              simp only [] at h
              rw [if_neg he] at h
              exact h)
            have he1 : (((out.length : Int) + 1) == size) = false := by simp; rw [hle] at he; omega
            have cp : w3.cell? ⟨b, ix, none⟩ = some (.int .u16 ((ps.getD ix 0 : Nat) : Int)) := HR3.out.prob hix
            have k1 : (ix : Int) < 258 := by omega
            have k0 : (0 : Int) ≤ (ix : Int) := by omega
            have hpok : POk (ps.getD ix 0) := getD_ok HR3.out.ps_ok (by rw [HR3.out.ps_len]; exact hix)
            have hgq : 0 < (l 3).length → ∀ q o, A 3 = some ⟨q, o, none⟩ → q ≠ g := fun h0 q o e => by
              have := HR3.out.old (i := 3) (by decide) h0 q o e
              have := HR3.out.gb
              omega
            have KB := Lib.hid (rfbit_any HR3.out.rf (HR3.out.sl (i := 3) (by decide)) (by have := HR3.out.four.len 3 (by decide); omega) hgq HR3.out.d_ok hpok)
            have HIX := Lib.hid (And.intro hix hm)
            have hbo := bitD_ok HR3.out.d_ok hpok
            have hbz := bitD_zero' (d := d) (p := ps.getD ix 0)
            obtain ⟨⟨v, q1, dd⟩, hbit⟩ : ∃ t, t = bitD d (ps.getD ix 0) := ⟨_, rfl⟩
            rw [← hbit] at KB hbo hbz
            have HBT := Lib.hid (And.intro hbit (And.intro hbo hbz))
            clear hm hmk HGO he hix hgq hpok hbit hbo hbz
            go_wp2_with fail
            refine KB.out.mono ?_
            rintro e w5 ⟨rfl, hr5, hg5⟩
            have hR5 := HR3.out.turn hr5 hg5 HBT.out.2.1.2.2
            have cp5 := hR5.prob HIX.out.1
            have zp5 := hR5.free ix
            have HR5 := Lib.hid hR5
            clear hr5 hg5 hR5 KB cp
            go_upto_region 19 with fail
            have hR6 := HR5.out.set ix HBT.out.2.1.2.1
            have HR6 := Lib.hid hR6
            clear cp5 zp5 hR6
            have c4 := HR6.out.bad
            cases dd with
            | none =>
              as_aux_lemma =>
                have HNO := Lib.hid (show ans = none by
                  have h := HG2.out
                  rw [bitB_no (k := ⟨(l 1).drop cN, (l 2).drop jN, d, ps⟩) HBT.out.1] at h
                  exact h)
                have c4 : (w5.setCell ⟨b, ix, none⟩ (.int .u16 (q1 : Int))).cell? ⟨g, 4, none⟩ = some (.bool true) := c4
                clear HG2
                go_wp2_with fail
                go_ret2
                exact ⟨HR6.out.bel, .inl ⟨HNO.out, rfl⟩⟩
            | some d1 =>
              have c4 : (w5.setCell ⟨b, ix, none⟩ (.int .u16 (q1 : Int))).cell? ⟨g, 4, none⟩ = some (.bool false) := c4
              by_cases hv0 : v = 0
              · as_aux_lemma =>
                  subst hv0
                  have HG3 := Lib.hid (show ans = goR size.toNat ((l 0).drop (iN + 1)) ⟨(l 1).drop cN, (l 2).drop jN, some d1, ps.set ix q1⟩ (out ++ [bx]) xv by
                    have h := HG2.out
                    rw [bitB_nought (k := ⟨(l 1).drop cN, (l 2).drop jN, d, ps⟩) HBT.out.1] at h
                    exact h)
                  clear HG2
                  go_wp2_with fail
                  go_roundw
                  case rel =>
                    obtain ⟨hR, hi, hc, hj, ha, hl, _⟩ := HJ.out
                    exact ⟨out ++ [bx], O3, co3, iN + 1, cN, jN, xv, _, _, by rw [hle], by go_num, rfl, rfl, rfl, HR6.out, by have := HLT.out.2; omega, hc, hj, HXL.out, by rw [hle]; omega, HG3.out⟩
                  case measure => have := HLT.out.2; simp [intOf]; omega
              · have hv1' : v ≤ 1 := HBT.out.2.1.1
                have hv1 : v = 1 := by omega
                subst hv1
                generalize w5.setCell ⟨b, ix, none⟩ (.int .u16 (q1 : Int)) = w6 at *
                clear hv0 k0 k1
                obtain ⟨y0, y1, y2, y3⟩ := HR6.out.fld
                go_upto_if 75 with fail
                go_cut [10, 11, 17] from 75 to 103 (fun v10 v11 v17 wz => wz = w6 ∧ ∃ (cN' jN' qw ow cap : Nat) (a1 a2 a3 a4 : UInt8), v10 = .int .i64 (cN' : Int) ∧ v11 = .int .i64 (jN' : Int) ∧ v17 = .slice (some ⟨qw, ow, none⟩) 4 cap ∧
                  cN' ≤ (l 1).length ∧ jN' ≤ (l 2).length ∧ cN' + jN' = cN + jN + 4 ∧
                  (w6.cell? ⟨qw, ow, none⟩ = some (.int .u8 (a1.toNat : Int)) ∧ w6.cell? ⟨qw, ow + 1, none⟩ = some (.int .u8 (a2.toNat : Int)) ∧ w6.cell? ⟨qw, ow + 2, none⟩ = some (.int .u8 (a3.toNat : Int)) ∧ w6.cell? ⟨qw, ow + 3, none⟩ = some (.int .u8 (a4.toNat : Int))) ∧
                  bitB size.toNat ⟨(l 1).drop cN, (l 2).drop jN, d, ps⟩ (out ++ [bx]) ix xv = outB size.toNat ⟨(l 1).drop cN', (l 2).drop jN', some d1, ps.set ix q1⟩ (out ++ [bx]) xv (pl4 a1 a2 a3 a4))
                case first =>
                  as_aux_lemma =>
                    by_cases h256 : ix < 256
                    · have g232 : ((xv : Int) == 232) = true := by have := mark_call HJ.out.2.2.2.2.1 HIX.out.2; simp; omega
                      by_cases h4 : cN + 4 ≤ (l 1).length
                      · have hcap := (HR6.out.four.cap 1 (by decide)).1
                        have hcb : (cN : Int) ≤ 16400 := by have := HR6.out.four.len 1 (by decide); omega
                        have g4 : ¬ ((cN : Int) + 4 > ((l 1).length : Int)) := by omega
                        have g5 : (cN : Int) + 4 ≤ (c 1 : Int) := by omega
                        have g6 : (cN : Int) ≤ (cN : Int) + 4 := by omega
                        have g7 : (0 : Int) ≤ (cN : Int) := by omega
                        have g8 : ¬ c 1 = cN := by omega
                        obtain ⟨qw, ow, ew, _, hcw⟩ := (HR6.out.sl (i := 1) (by decide)).2 (by omega)
                        rw [ew] at y1
                        have HCW := Lib.hid hcw
                        have HBB := Lib.hid (bitB_call (lj := (l 2).drop jN) (size := size.toNat) (out := out ++ [bx]) (a := xv) HBT.out.1 h256 h4)
                        have HCC := Lib.hid h4
                        clear hcw ew h4 h256 y0 y2 y3 hcap he1 c4
                        go_wp2_with fail
                        go_meet
                        have hc4 := HCC.out
                        refine ⟨rfl, cN + 4, jN, qw, ow + cN, _, (l 1).getD cN 0, (l 1).getD (cN + 1) 0, (l 1).getD (cN + 2) 0, (l 1).getD (cN + 3) 0, by go_num, rfl, rfl, hc4, HJ.out.2.2.2.1, by omega, ⟨?_, ?_, ?_, ?_⟩, HBB.out⟩
                        · rw [HCW.out cN (by omega), bv_get _ _ (by omega)]
                        · rw [Nat.add_assoc, HCW.out (cN + 1) (by omega), bv_get _ _ (by omega)]
                        · rw [Nat.add_assoc, HCW.out (cN + 2) (by omega), bv_get _ _ (by omega)]
                        · rw [Nat.add_assoc, HCW.out (cN + 3) (by omega), bv_get _ _ (by omega)]
                      · have hcb : (cN : Int) ≤ 16400 := by have := HR6.out.four.len 1 (by decide); have := HJ.out.2.2.1; have := HJ.out.2.2.2.1; omega
                        have g4 : (cN : Int) + 4 > ((l 1).length : Int) := by omega
                        have g7 : (0 : Int) ≤ (cN : Int) := by omega
                        have HNO := Lib.hid (show ans = none by
                          have h := HG2.out
                          rw [bitB_call_no  HBT.out.1 h256 (by omega)] at h
                          exact h)
                        clear h4 h256 y0 y2 y3 he1 c4
                        go_wp2_with fail
                        go_ret2
                        exact ⟨HR6.out.bel, .inl ⟨HNO.out, rfl⟩⟩
                    · have g232 : ((xv : Int) == 232) = false := by have := mark_call HJ.out.2.2.2.2.1 HIX.out.2; simp; omega
                      by_cases h4 : jN + 4 ≤ (l 2).length
                      · have hcap := (HR6.out.four.cap 2 (by decide)).1
                        have hcb : (jN : Int) ≤ 16400 := by have := HR6.out.four.len 2 (by decide); omega
                        have g4 : ¬ ((jN : Int) + 4 > ((l 2).length : Int)) := by omega
                        have g5 : (jN : Int) + 4 ≤ (c 2 : Int) := by omega
                        have g6 : (jN : Int) ≤ (jN : Int) + 4 := by omega
                        have g7 : (0 : Int) ≤ (jN : Int) := by omega
                        have g8 : ¬ c 2 = jN := by omega
                        obtain ⟨qw, ow, ew, _, hcw⟩ := (HR6.out.sl (i := 2) (by decide)).2 (by omega)
                        rw [ew] at y2
                        have HCW := Lib.hid hcw
                        have HBB := Lib.hid (bitB_jump (lc := (l 1).drop cN) (size := size.toNat) (out := out ++ [bx]) (a := xv) HBT.out.1 h256 h4)
                        have HCC := Lib.hid h4
                        clear hcw ew h4 h256 y0 y1 y3 hcap he1 c4
                        go_wp2_with fail
                        go_meet
                        have hc4 := HCC.out
                        refine ⟨rfl, cN, jN + 4, qw, ow + jN, _, (l 2).getD jN 0, (l 2).getD (jN + 1) 0, (l 2).getD (jN + 2) 0, (l 2).getD (jN + 3) 0, rfl, by go_num, rfl, HJ.out.2.2.1, hc4, by omega, ⟨?_, ?_, ?_, ?_⟩, HBB.out⟩
                        · rw [HCW.out jN (by omega), bv_get _ _ (by omega)]
                        · rw [Nat.add_assoc, HCW.out (jN + 1) (by omega), bv_get _ _ (by omega)]
                        · rw [Nat.add_assoc, HCW.out (jN + 2) (by omega), bv_get _ _ (by omega)]
                        · rw [Nat.add_assoc, HCW.out (jN + 3) (by omega), bv_get _ _ (by omega)]
                      · have hcb : (jN : Int) ≤ 16400 := by have := HR6.out.four.len 2 (by decide); have := HJ.out.2.2.1; have := HJ.out.2.2.2.1; omega
                        have g4 : (jN : Int) + 4 > ((l 2).length : Int) := by omega
                        have g7 : (0 : Int) ≤ (jN : Int) := by omega
                        have HNO := Lib.hid (show ans = none by
                          have h := HG2.out
                          rw [bitB_jump_no  HBT.out.1 h256 (by omega)] at h
                          exact h)
                        clear h4 h256 y0 y1 y3 he1 c4
                        go_wp2_with fail
                        go_ret2
                        exact ⟨HR6.out.bel, .inl ⟨HNO.out, rfl⟩⟩
                case rest =>
                obtain ⟨hw', cN', jN', qw, ow, cap, a1, a2, a3, a4, rfl, rfl, rfl, hc', hj', hsum, ⟨z1, z2, z3, z4⟩, hbb⟩ := hcut
                rw [hw']
                clear hw' wc
                have HC := Lib.hid (And.intro hc' (And.intro hj' (And.intro hsum hbb)))
                have hm49 : (out.length : Int) ≤ 49200 := by
                  have h0 := HR6.out.four.len 0 (by decide)
                  have h1 := HR6.out.four.len 1 (by decide)
                  have h2 := HR6.out.four.len 2 (by decide)
                  have h3 := HJ.out.2.2.2.2.2.1
                  have h4 := HJ.out.2.1
                  have h5 := HJ.out.2.2.1
                  have h6 := HJ.out.2.2.2.1
                  omega
                clear hc' hj' hsum hbb y0 y1 y2 y3 c4 he1
                by_cases h5 : size.toNat < (out ++ [bx]).length + 4
                · as_aux_lemma =>
                    have g5 : ((out.length : Int) + 1 + 4 > size) := by have := HLT.out.1; rw [hle] at h5; omega
                    have HNO := Lib.hid (show ans = none by
                      have h := HG2.out
                      rw [HC.out.2.2.2] at h
                      unfold outB at h
                      rw [if_pos h5] at h
                      exact h)
                    clear h5
                    go_wp2_with fail
                    go_ret2
                    exact ⟨HR6.out.bel, .inl ⟨HNO.out, rfl⟩⟩
                · have g5 : ¬ ((out.length : Int) + 1 + 4 > size) := by have := HLT.out.1; rw [hle] at h5; omega
                  obtain ⟨b1, hb1⟩ : ∃ x, x = a1.toNat := ⟨_, rfl⟩
                  obtain ⟨b2, hb2⟩ : ∃ x, x = a2.toNat := ⟨_, rfl⟩
                  obtain ⟨b3, hb3⟩ : ∃ x, x = a3.toNat := ⟨_, rfl⟩
                  obtain ⟨b4, hb4⟩ : ∃ x, x = a4.toNat := ⟨_, rfl⟩
                  have f1 : (b1 : Int) ≤ 255 := by have := a1.toNat_lt; omega
                  have f2 : (b2 : Int) ≤ 255 := by have := a2.toNat_lt; omega
                  have f3 : (b3 : Int) ≤ 255 := by have := a3.toNat_lt; omega
                  have f4 : (b4 : Int) ≤ 255 := by have := a4.toNat_lt; omega
                  have e1 : (0 : Int) ≤ (b1 : Int) := by omega
                  have e2 : (0 : Int) ≤ (b2 : Int) := by omega
                  have e3 : (0 : Int) ≤ (b3 : Int) := by omega
                  have e4 : (0 : Int) ≤ (b4 : Int) := by omega
                  have HP4 := Lib.hid (show pl4 a1 a2 a3 a4 = ((b1 * 256 + b2) * 256 + b3) * 256 + b4 by rw [hb1, hb2, hb3, hb4]; rfl)
                  rw [← hb1] at z1
                  rw [← hb2] at z2
                  rw [← hb3] at z3
                  rw [← hb4] at z4
                  have H5 := Lib.hid h5
                  clear hb1 hb2 hb3 hb4 h5
                  go_upto_region 34 with fail
                  go_quiet (fail)
                  obtain ⟨V0, hV0⟩ : ∃ V : Int, V = (b1 : Int) * 16777216 + (b2 : Int) * 65536 + (b3 : Int) * 256 + (b4 : Int) - ((out.length : Int) + 1) - 4 := ⟨_, rfl⟩
                  rw [← hV0]
                  have v0 : -60000 ≤ V0 := by omega
                  have v1 : V0 < 4294967296 := by omega
                  have HT := Lib.hid (show ((tgt (pl4 a1 a2 a3 a4) (out ++ [bx]).length : Nat) : Int) = if V0 < 0 then V0 + 4294967296 else V0 by
                    rw [HP4.out, hle]
                    unfold tgt wr32
                    split <;> omega)
                  obtain ⟨T, hT⟩ : ∃ T, T = tgt (pl4 a1 a2 a3 a4) (out ++ [bx]).length := ⟨_, rfl⟩
                  have HTT := Lib.hid hT
                  rw [← hT] at HT
                  have HR7 := Lib.hid (HR6.out.drewN nq)
                  clear hV0 z1 z2 z3 z4 f1 f2 f3 f4 e1 e2 e3 e4 HP4 hT g5
                  generalize w6.drewN nq = w7 at *
                  clear HR6
                  go_wp2_with fail
                  go_loopw [18] (fun v wz => ∃ V : Int, v = .int .i64 V ∧ wz = w7 ∧ (V = V0 ∨ (V0 < 0 ∧ V = V0 + 4294967296))) (fun v _ => if intOf v < 0 then 1 else 0)
                  case atStart => exact ⟨V0, rfl, rfl, .inl rfl⟩
                  case round =>
                    obtain ⟨V, rfl, hw7, hV⟩ := hrel
                    subst hw7
                    by_cases hneg : V < 0
                    · obtain rfl : V = V0 := by rcases hV with h | ⟨h, h2⟩ <;> omega
                      clear hV
                      go_wp2_with fail
                      go_roundw
                      case rel => exact ⟨V + 4294967296, rfl, by first | rfl | trivial, .inr ⟨hneg, rfl⟩⟩
                      case measure =>
                        show (if V + 4294967296 < 0 then 1 else 0) < (if V < 0 then 1 else 0)
                        rw [if_neg (by omega), if_pos hneg]
                        exact Nat.zero_lt_one
                    · obtain rfl : V = (T : Int) := by
                        rw [HT.out]
                        rcases hV with h | ⟨h, h2⟩
                        · rw [if_neg (by omega), h]
                        · rw [if_pos h, h2]
                      have HTB := Lib.hid (show T < 4294967296 by rcases hV with h | ⟨h, h2⟩ <;> omega)
                      clear hV v0 v1 HT
                      have HSL := Lib.hid (sl_lit wr 5 (tc T) (show 4 ≤ 1000000000 by decide))
                      have HON := Lib.hid HR7.out.own
                      have hap := app_fits (n := out.length + 1) (m := 4) (by omega) (by omega)
                      have hbs : w.heap.size ≤ (wr.alloc (.cells (tc T) 5)).heap.size := by have := HR7.out.bel.size; simp; omega
                      have HBX := Lib.hid (And.intro hap hbs)
                      have HM49 := Lib.hid hm49
                      clear hap hbs hm49
                      unfold tc at HSL HBX
                      go_wp2_with (first
                        | (at_builtin; refine wpList_appO _ rfl (.tmp 139) (.tmp 154) 22 rfl w.heap.size 5 i8 _ 1 Try.underlying22 hi8 hz0 hz1 hz2 rfl _ (out.length + 1) _ rfl (hle ▸ HON.out.alloc _) _ 4 4 _ rfl HSL.out (tc_one T) HBX.out.1 (by decide) HBX.out.2 ?_)
                        | fail)
                      intro O8 co8 w8 ho8 hg8 hv8
                      have hlx : (out ++ [bx] ++ leB T 4).length = out.length + 1 + 4 := by rw [List.length_append, hle, leB_length]
                      have hR8 := HR7.out.app (x := leB T 4) ((Below.refl _ wr).alloc (Nat.le_refl _) (.cells (tc T) 5)) (O' := O8) (co' := co8) (w' := w8) (by rw [bv_append, hlx, ← tc_is HTB.out]; exact ho8) (by rw [hle]; exact hg8) (by rw [hlx, hle]; simpa using hv8)
                      clear ho8 hg8 hv8 HSL HBX
                      obtain ⟨q8, o8, e8, _, hc8⟩ := (Sl.of_own hR8.own).2 (by rw [hlx]; omega)
                      have z8 : w8.cell? ⟨q8, o8 + (out.length + 4), none⟩ = some (.int .u8 ((lastB xv T 4 : Nat) : Int)) := by
                        rw [hc8 (out.length + 4) (by rw [hlx]; omega), bv_get _ _ (by rw [hlx]; omega)]
                        have e : (out ++ [bx] ++ leB T 4).getD (out.length + 4) 0 = (leB T 4).getD 3 0 := by
                          rw [List.getD_eq_getElem?_getD, List.getElem?_append_right (by rw [hle]; omega), hle, show out.length + 4 - (out.length + 1) = 3 by omega, ← List.getD_eq_getElem?_getD]
                        rw [e, leB_three, last_is]
                        simp
                      have HR8 := Lib.hid hR8
                      subst e8
                      clear hR8 hc8
                      have u1 : (0 : Int) ≤ (out.length : Int) + 4 := by omega
                      have u2 : (out.length : Int) + 4 < (out.length : Int) + 1 + 4 := by omega
                      have u3 : (out.length : Int) + 1 + 4 - 1 = ((out.length + 4 : Nat) : Int) := by omega
                      have hm49 : (out.length : Int) ≤ 49200 := HM49.out
                      have hl256 : lastB xv T 4 < 256 := by rw [last_is]; omega
                      have HL2 := Lib.hid hl256
                      clear hl256
                      obtain ⟨lb, hlb⟩ : ∃ lb, lb = lastB xv T 4 := ⟨_, rfl⟩
                      rw [← hlb] at z8 HL2
                      have HLB := Lib.hid hlb
                      clear hlb
                      go_wp2_with fail
                      go_roundw
                      case rel =>
                        obtain ⟨hR, hi, hc, hj, ha, hl, _⟩ := HJ.out
                        obtain ⟨hc', hj', hsum, hbb⟩ := HC.out
                        have hG := HG2.out
                        rw [hbb] at hG
                        unfold outB at hG
                        rw [if_neg H5.out, ← HTT.out, ← HLB.out] at hG
                        exact ⟨out ++ [bx] ++ leB T 4, _, co8, iN + 1, cN', jN', lb, some d1, ps.set ix q1, by rw [hlx], by go_num, rfl, rfl, rfl, HR8.out, by have := HLT.out.2; omega, hc', hj', HL2.out, by rw [hlx]; omega, hG⟩
                      case measure => have := HLT.out.2; simp [intOf]; omega
      · as_aux_lemma =>
          have hin : iN = (l 0).length := by omega
          have HNO := Lib.hid (show ans = none by
            rw [hans, hin, List.drop_length]
            unfold goR
            rw [if_neg (by omega)])
          have i2 : (iN : Int) ≥ ((l 0).length : Int) := by omega
          have HB := Lib.hid hR.bel
          clear hR hi hc hj ha hl hans hlt him hin x1 x2 x3
          go_wp2_with fail
          go_ret2
          exact ⟨HB.out, .inl ⟨HNO.out, rfl⟩⟩
    · have hlt' : ¬ (out.length : Int) < size := fun h => hlt (lt_toNat.1 h)
      have hge : size.toNat ≤ out.length := by omega
      obtain ⟨at_, r, k, bad, hB, hta, htr, htk, ht⟩ := hR.rf
      have v1 : wr.cell? ⟨g, 1, none⟩ = some (.int .i64 (at_ : Int)) := hB.cell 1
      have v3 : wr.cell? ⟨g, 3, none⟩ = some (.int .u64 (k : Int)) := hB.cell 3
      have v4 : wr.cell? ⟨g, 4, none⟩ = some (.bool bad) := hB.cell 4
      have hdx : ¬ bad = false → d = none := fun h => by
        rcases ht with ⟨_, e⟩ | ⟨e, _⟩
        · exact e
        · exact absurd e h
      have hdy : bad = false → d = some (r, k, (l 3).drop at_) := fun h => by
        rcases ht with ⟨e, _⟩ | ⟨_, e⟩
        · rw [h] at e; cases e
        · exact e
      have HOW := Lib.hid (And.intro hR.bel (And.intro (Sl.of_own hR.own) (fun q o e => ((own_facts hR.own).2.2.2 q o e).1)))
      clear hB htr htk ht hlt ha hl HJ
      by_cases c1 : iN = (l 0).length
      rotate_left
      · as_aux_lemma =>
          have HNO := Lib.hid (show ans = none by rw [hans]; exact goR_stop hge (.inl (drop_ne hi c1)))
          have j0 : ((iN : Int) != ((l 0).length : Int)) = true := by simp; omega
          clear hans hi hc hj hta hdx hdy hge c1 hR
          go_wp2_with fail
          go_quiet (fail)
          go_wp2_with fail
          go_ret2
          exact ⟨below_drewN HOW.out.1 _, .inl ⟨HNO.out, rfl⟩⟩
      by_cases c2 : cN = (l 1).length
      rotate_left
      · as_aux_lemma =>
          have HNO := Lib.hid (show ans = none by rw [hans]; exact goR_stop hge (.inr (.inl (drop_ne hc c2))))
          have j0 : ((iN : Int) != ((l 0).length : Int)) = false := by simp [c1]
          have j1 : ((cN : Int) != ((l 1).length : Int)) = true := by simp; omega
          clear hans hi hc hj hta hdx hdy hge c1 c2 hR
          go_wp2_with fail
          go_quiet (fail)
          go_wp2_with fail
          go_ret2
          exact ⟨below_drewN HOW.out.1 _, .inl ⟨HNO.out, rfl⟩⟩
      by_cases c3 : jN = (l 2).length
      rotate_left
      · as_aux_lemma =>
          have HNO := Lib.hid (show ans = none by rw [hans]; exact goR_stop hge (.inr (.inr (.inl (drop_ne hj c3)))))
          have j0 : ((iN : Int) != ((l 0).length : Int)) = false := by simp [c1]
          have j1 : ((cN : Int) != ((l 1).length : Int)) = false := by simp [c2]
          have j2 : ((jN : Int) != ((l 2).length : Int)) = true := by simp; omega
          clear hans hi hc hj hta hdx hdy hge c1 c2 c3 hR
          go_wp2_with fail
          go_quiet (fail)
          go_wp2_with fail
          go_ret2
          exact ⟨below_drewN HOW.out.1 _, .inl ⟨HNO.out, rfl⟩⟩
      by_cases c4 : bad = false
      rotate_left
      · as_aux_lemma =>
          have HNO := Lib.hid (show ans = none by rw [hans]; exact goR_stop hge (.inr (.inr (.inr (by rw [hdx c4]; rfl)))))
          have j0 : ((iN : Int) != ((l 0).length : Int)) = false := by simp [c1]
          have j1 : ((cN : Int) != ((l 1).length : Int)) = false := by simp [c2]
          have j2 : ((jN : Int) != ((l 2).length : Int)) = false := by simp [c3]
          have c4 : bad = true := by simpa using c4
          rw [c4] at v4
          clear hans hi hc hj hta hdx hdy hge c1 c2 c3 c4 hR
          go_wp2_with fail
          go_quiet (fail)
          go_wp2_with fail
          go_ret2
          exact ⟨below_drewN HOW.out.1 _, .inl ⟨HNO.out, rfl⟩⟩
      by_cases c5 : k = 0
      rotate_left
      · as_aux_lemma =>
          have HNO := Lib.hid (show ans = none by rw [hans]; exact goR_stop hge (.inr (.inr (.inr (by rw [hdy (by simpa using c4)]; exact end2_code c5)))))
          have j0 : ((iN : Int) != ((l 0).length : Int)) = false := by simp [c1]
          have j1 : ((cN : Int) != ((l 1).length : Int)) = false := by simp [c2]
          have j2 : ((jN : Int) != ((l 2).length : Int)) = false := by simp [c3]
          rw [c4] at v4
          have j4 : ((k : Int) != 0) = true := by simp; omega
          clear hans hi hc hj hta hdx hdy hge c1 c2 c3 c4 c5 hR
          go_wp2_with fail
          go_quiet (fail)
          go_wp2_with fail
          go_ret2
          exact ⟨below_drewN HOW.out.1 _, .inl ⟨HNO.out, rfl⟩⟩
      by_cases c6 : at_ = (l 3).length
      rotate_left
      · as_aux_lemma =>
          have HNO := Lib.hid (show ans = none by rw [hans]; exact goR_stop hge (.inr (.inr (.inr (by rw [hdy (by simpa using c4), c5]; exact end2_rest (drop_ne hta c6))))))
          have j0 : ((iN : Int) != ((l 0).length : Int)) = false := by simp [c1]
          have j1 : ((cN : Int) != ((l 1).length : Int)) = false := by simp [c2]
          have j2 : ((jN : Int) != ((l 2).length : Int)) = false := by simp [c3]
          have j4 : ((k : Int) != 0) = false := by simp [c5]
          rw [c4] at v4
          have j5 : ((at_ : Int) != ((l 3).length : Int)) = true := by simp; omega
          clear hans hi hc hj hta hdx hdy hge c1 c2 c3 c4 c5 c6 hR
          go_wp2_with fail
          go_quiet (fail)
          go_wp2_with fail
          go_ret2
          exact ⟨below_drewN HOW.out.1 _, .inl ⟨HNO.out, rfl⟩⟩
      have HYS := Lib.hid (show ans = some out by
        rw [hans, goR_end hge, if_pos]
        rw [hdy c4, c1, c2, c3, c5, c6]
        simp [K2.ends, end2])
      have j0 : ((iN : Int) != ((l 0).length : Int)) = false := by simp [c1]
      have j1 : ((cN : Int) != ((l 1).length : Int)) = false := by simp [c2]
      have j2 : ((jN : Int) != ((l 2).length : Int)) = false := by simp [c3]
      have j4 : ((k : Int) != 0) = false := by simp [c5]
      have j5 : ((at_ : Int) != ((l 3).length : Int)) = false := by simp [c6]
      rw [c4] at v4
      clear hans hi hc hj hta hdx hdy hge c1 c2 c3 c4 c5 c6 hR
      as_aux_lemma =>
        go_wp2_with fail
        go_quiet (fail)
        go_wp2_with fail
        go_ret2
        exact ⟨below_drewN HOW.out.1 _, .inr ⟨out, O, co, HYS.out, rfl, HOW.out.2.1.drewN _, HOW.out.2.2⟩⟩
theorem rdecode_any {w : World} {A : Nat → Option Addr} {c : Nat → Nat} {l : Nat → List UInt8} {size : Int} {ans : Option (List UInt8)} (hF : FourOk w A c l)
    (hans : ans = goR size.toNat (l 0) ⟨l 1, l 2, started (l 3), List.replicate 258 1024⟩ [] 0) :
    Calls Try.prog 10 #[.agg (fourA A c l), .int .i64 size] w (RdPost w ans) :=
  (rdecode_new hF hans).mono fun e w' h => by
    refine ⟨h.1, ?_⟩
    rcases h.2 with h1 | ⟨out, O, co, h1, h2, h3, _⟩
    · exact .inl h1
    · exact .inr ⟨out, O, co, h1, h2, h3⟩
end Go.Proofs.Ytdnkoeafnnohnaa
