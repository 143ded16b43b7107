/-
  CkWake, CkSmW, SmOwes: put together.
-/
import Derived.Test.YtjganponepafpaaQ27
import Derived.Test.YtjganponepafpaaQ16
import Derived.Test.YtjganponepafpaaQ06
import Derived.Lib.SlBytesConst
import Derived.Deep.RegionHeld3
import Derived.BigQuiet
import Derived.Test.YtjganponepafpaaQ17
set_option linter.unusedVariables false
set_option linter.unusedSimpArgs false
/-
  The laws' beginning.
-/
namespace Go.Proofs.Ytjganponepafpaa
open Go.RowKit

theorem sl_mark2 (w : World) (e : TypeId) (cs : Array Value) (fr : Nat × Nat) : Sl (w.alloc (.cells cs e fr)) (some ⟨w.heap.size, 0, none⟩) cs.size cs.toList :=
  ⟨by simp, fun _ => ⟨w.heap.size, 0, rfl, by simp, fun j _ => by rw [Nat.zero_add, cell_of_row _ _ j cs e fr (heap_alloc_new w _)]; simp⟩⟩
theorem conv_two (w : World) (a b : Int) : (convert 22 22 (.slice (some ⟨w.heap.size, 0, none⟩) 2 2)).run Try.prog (w.alloc (.cells #[.int .u8 a, .int .u8 b] 5)) = .ok (.slice (some ⟨w.heap.size, 0, none⟩) 2 2) (w.alloc (.cells #[.int .u8 a, .int .u8 b] 5 (2, 3))) :=
  Go.Lib.run_convert_bytes_const w 22 5 #[.int .u8 a, .int .u8 b] 2 2 Try.underlying22 Try.underlying5
theorem setOk_awk : SetOk 3 0 2 4096 := ⟨by decide, by decide, by decide, by decide, by decide⟩
theorem pack_one (W : World) : Calls Try.prog 11 #[.slice none 0 0, .agg #[.int .i64 3, .int .i64 0, .int .i64 2, .int .i64 4096], .int .i64 5] W fun e w' =>
    ∃ (R : Option Addr) (cl r : Nat), e = .returned (.tuple #[.slice R 1 cl, .int .u8 (r : Int), .int .i64 0]) ∧ Sl w' R 1 (bv [0]) ∧ Below W.heap.size W w' := by
  refine (kpack_any (w := W) (A := none) (n := 0) (c := 0) (p := 5) (b := []) (lc := 3) (lp := 0) (pb := 2) (dict := 4096) setOk_awk (by decide) (by decide) (by decide) Sl.nil (by decide) (Nat.le_refl _) (by unfold maxLen; decide)).mono ?_
  rintro e w' ⟨R, cl, r, rfl, hS, _, _, _, hb⟩
  rw [pack_nil] at hS ⊢
  exact ⟨R, cl, r, rfl, hS, hb⟩
theorem pack_two (w : World) (W : World) (hb0 : Below (w.alloc (.cells #[.int .u8 97, .int .u8 98] 5 (2, 3))).heap.size (w.alloc (.cells #[.int .u8 97, .int .u8 98] 5 (2, 3))) W) : Calls Try.prog 11 #[.slice (some ⟨w.heap.size, 0, none⟩) 2 2, .agg #[.int .i64 3, .int .i64 0, .int .i64 2, .int .i64 4096], .int .i64 1] W fun e w' =>
    ∃ (R : Option Addr) (cl r : Nat), e = .returned (.tuple #[.slice R 9 cl, .int .u8 (r : Int), .int .i64 0]) ∧ Sl w' R 9 (bv [1, 0, 0, 97, 2, 0, 0, 98, 0]) ∧ Below W.heap.size W w' := by
  have hS : Sl W (some ⟨w.heap.size, 0, none⟩) 2 (bv [97, 98]) := (sl_mark2 w 5 #[.int .u8 97, .int .u8 98] (2, 3)).below hb0
  refine (kpack_any (w := W) (n := 2) (c := 2) (p := 1) (b := [97, 98]) (lc := 3) (lp := 0) (pb := 2) (dict := 4096) setOk_awk (by decide) (by decide) (by decide) hS (by decide) (Nat.le_refl _) (by unfold maxLen; decide)).mono ?_
  rintro e w' ⟨R, cl, r, rfl, hS, _, _, _, hb⟩
  rw [pack_ab] at hS ⊢
  exact ⟨R, cl, r, rfl, hS, hb⟩
set_option maxRecDepth 100000 in
set_option maxHeartbeats 8000000 in
theorem awake12_any (w : World) : Calls Try.prog 10 #[] w fun e w' => e = .returned (.bool true) ∧ Below w.heap.size w w' := by
  have HBK := Lib.hid (Blk.fresh w 39 #[.int .i64 3, .int .i64 0, .int .i64 2, .int .i64 4096])
  have HB1 := Lib.hid ((Below.refl w.heap.size w).alloc (Nat.le_refl _) (.cells #[.int .i64 3, .int .i64 0, .int .i64 2, .int .i64 4096] 39))
  have K1 := Lib.hid (fun W => pack_one W)
  go_enter Try.func10, Try.ntmps10
  go_wp2_with fail
  refine (K1.out _).mono ?_
  rintro x w2 ⟨R1, c1, r1, rfl, hs1, hb2⟩
  have hk2 := HBK.out.below hb2
  have HK2 := Lib.hid hk2
  have HS1 := Lib.hid hs1
  have HB2 := Lib.hid (below_gg HB1.out hb2 (Nat.le_refl _))
  clear hk2 hs1 hb2 K1 HB1 HBK
  have hcv := conv_two w2 97 98
  have hk3 := HK2.out.below ((Below.refl w2.heap.size w2).alloc (Nat.le_refl _) (.cells #[.int .u8 97, .int .u8 98] 5 (2, 3)))
  have d0 := hk3.cell 0
  have d1 := hk3.cell 1
  have d2 := hk3.cell 2
  have d3 := hk3.cell 3
  have HB3 := Lib.hid (HB2.out.alloc HB2.out.size (.cells #[.int .u8 97, .int .u8 98] 5 (2, 3)))
  have HS3 := Lib.hid (HS1.out.below ((Below.refl w2.heap.size w2).alloc (Nat.le_refl _) (.cells #[.int .u8 97, .int .u8 98] 5 (2, 3))))
  have K2 := Lib.hid (pack_two w2 _ (Below.refl _ _))
  clear hk3
  go_wp2_with fail
  refine K2.out.mono ?_
  rintro x w4 ⟨R2, c2, r2, rfl, hs2, hb4⟩
  have HS4 := Lib.hid (HS3.out.below hb4)
  have HT4 := Lib.hid hs2
  have HB4 := Lib.hid (below_gg HB3.out hb4 (Nat.le_refl _))
  clear hs2 hb4 K2 hcv d0 d1 d2 d3 HB3 HS3 HS1 HB2 HK2
  have KB1 := Lib.hid (show Calls Try.prog 9 #[.slice R1 1 c1, .slice (some ⟨w4.heap.size, 0, none⟩) 1 1] (w4.alloc (.cells #[.int .u8 0] 5)) (fun e w' => e = .returned (.bool true) ∧ ∃ d, (w4.alloc (.cells #[.int .u8 0] 5)).drewN d = w') from
    bytesSame_any (HS4.out.alloc _) (sl_b1 w4 0) (by decide))
  go_wp2_with fail
  refine KB1.out.mono ?_
  rintro x w5 ⟨rfl, d, rfl⟩
  have hb5 : Below w4.heap.size w4 ((w4.alloc (.cells #[.int .u8 0] 5)).drewN d) := below_drewN ((Below.refl _ w4).alloc (Nat.le_refl _) _) d
  have HT5 := Lib.hid (HT4.out.below hb5)
  have HB5 := Lib.hid (below_gg HB4.out hb5 (Nat.le_refl _))
  clear hb5 KB1 HS4 HT4 HB4
  generalize (w4.alloc (.cells #[.int .u8 0] 5)).drewN d = w6 at *
  have KB2 := Lib.hid (show Calls Try.prog 9 #[.slice R2 9 c2, .slice (some ⟨w6.heap.size, 0, none⟩) 9 9] (w6.alloc (.cells #[.int .u8 1, .int .u8 0, .int .u8 0, .int .u8 97, .int .u8 2, .int .u8 0, .int .u8 0, .int .u8 98, .int .u8 0] 5)) (fun e w' => e = .returned (.bool true) ∧ ∃ d, (w6.alloc (.cells #[.int .u8 1, .int .u8 0, .int .u8 0, .int .u8 97, .int .u8 2, .int .u8 0, .int .u8 0, .int .u8 98, .int .u8 0] 5)).drewN d = w') from
    bytesSame_any (HT5.out.alloc _) (sl_lit w6 5 (bv [1, 0, 0, 97, 2, 0, 0, 98, 0]).toArray (by decide)) (by decide))
  have HB6 := Lib.hid (HB5.out.alloc HB5.out.size (.cells #[.int .u8 1, .int .u8 0, .int .u8 0, .int .u8 97, .int .u8 2, .int .u8 0, .int .u8 0, .int .u8 98, .int .u8 0] 5))
  go_wp2_with fail
  refine KB2.out.mono ?_
  rintro x w7 ⟨rfl, d2, rfl⟩
  have HB7 := Lib.hid (below_drewN HB6.out d2)
  clear KB2 HB6 HB5 HT5
  go_wp2_with fail
  go_ret
  exact ⟨rfl, HB7.out⟩
end Go.Proofs.Ytjganponepafpaa

/-
  The law Lzma2cSmall, walked, over what its numbers owe.
-/
namespace Go.Proofs.Ytjganponepafpaa
open Go.RowKit

/-- what the numbers owe: one byte again and again is packed into few -/
def SmallOwes : Prop := ∀ (x : UInt8) (n k : Nat), n < 60000 → 2000 ≤ k → k < 65000 → (packN (List.replicate n x) 3 0 2 65536 k).length ≤ 1 + 40 * (n / k + 1) + n / 200

theorem setOk_small : SetOk 3 0 2 65536 := ⟨by decide, by decide, by decide, by decide, by decide⟩
theorem wrap_is {x : Int} {y : Nat} (h : x = (y : Int)) (hy : y ≤ 100000000) : IntKind.i64.wrap x = (y : Int) := by
  rw [h]
  exact IntWalk.i64_in _ (by omega)
theorem wrap6_is {x : Int} {y : Nat} (h : x = (y : Int)) (hy : y ≤ 100000000) : wrap64 x = (y : Int) := by
  rw [h]
  exact IntWalk.wrap64_in _ (by omega)
theorem small_lin {l q h q1 q2 q3 q4 : Nat} (g1 : q ≤ 60000) (g2 : h ≤ 60000) (h1 : q1 = q + 1) (h2 : q2 = 40 * q1) (h3 : q3 = 1 + q2) (h4 : q4 = q3 + h) (hl : l ≤ 1 + 40 * (q + 1) + h) :
    IntKind.i64.wrap ((q : Int) + 1) = (q1 : Int) ∧ IntKind.i64.wrap (40 * (q1 : Int)) = (q2 : Int) ∧ IntKind.i64.wrap (1 + (q2 : Int)) = (q3 : Int) ∧
    IntKind.i64.wrap ((q3 : Int) + (h : Int)) = (q4 : Int) ∧ (l : Int) ≤ (q4 : Int) :=
  ⟨wrap_is (by omega) (by omega), wrap_is (by omega) (by omega), wrap_is (by omega) (by omega), wrap_is (by omega) (by omega), by omega⟩
theorem small_nums {n k l q h q1 q2 q3 q4 : Nat} (hn : n < 60000) (hq : q = n / k) (hh : h = n / 200) (h1 : q1 = q + 1) (h2 : q2 = 40 * q1) (h3 : q3 = 1 + q2) (h4 : q4 = q3 + h) (hl : l ≤ 1 + 40 * (n / k + 1) + n / 200) :
    (IntKind.i64.wrap ((q : Int) + 1) = (q1 : Int) ∧ IntKind.i64.wrap (40 * (q1 : Int)) = (q2 : Int) ∧ IntKind.i64.wrap (1 + (q2 : Int)) = (q3 : Int) ∧
    IntKind.i64.wrap ((q3 : Int) + (h : Int)) = (q4 : Int) ∧ (l : Int) ≤ (q4 : Int)) ∧ wrap64 ((n : Int) / (k : Int)) = (q : Int) ∧ wrap64 ((n : Int) / 200) = (h : Int) := by
  have g1 : q ≤ 60000 := by rw [hq]; exact Nat.le_trans (Nat.div_le_self _ _) (Nat.le_of_lt hn)
  have g2 : h ≤ 60000 := by rw [hh]; exact Nat.le_trans (Nat.div_le_self _ _) (Nat.le_of_lt hn)
  rw [← hq, ← hh] at hl
  exact ⟨small_lin g1 g2 h1 h2 h3 h4 hl, wrap6_is (by rw [hq]; rfl) (Nat.le_trans g1 (by decide)), wrap6_is (by rw [hh]; rfl) (Nat.le_trans g2 (by decide))⟩

set_option maxRecDepth 100000 in
set_option maxHeartbeats 8000000 in
theorem lzma2cSmall_walk (hsm : SmallOwes) {xv tm pc : Nat} {w : World} (hxv : xv < 256) (htm : tm < 65536) (hpc : pc < 65536) :
    Calls Try.prog 4 #[.int .u8 (xv : Int), .int .u16 (tm : Int), .int .u16 (pc : Int)] w fun e w' => e = .returned (.bool true) ∧ Below w.heap.size w w' := by
  obtain ⟨x, hx⟩ : ∃ x : UInt8, x = UInt8.ofNat xv := ⟨_, rfl⟩
  have hxx : (xv : Int) = (x.toNat : Int) := by rw [hx, UInt8.toNat_ofNat']; omega
  rw [hxx]
  obtain ⟨n, hn⟩ : ∃ n, n = tm % 60000 := ⟨_, rfl⟩
  obtain ⟨r, hr⟩ : ∃ r, r = pc % 63000 := ⟨_, rfl⟩
  obtain ⟨k, hk⟩ : ∃ k, k = 2000 + r := ⟨_, rfl⟩
  have hn6 : n < 60000 := by omega
  have hk6 : 2000 ≤ k ∧ k < 65000 := by omega
  have e0 : IntKind.i64.wrap (tm : Int) = (tm : Int) := IntWalk.i64_in _ (by omega)
  have e1 : IntKind.i64.wrap (pc : Int) = (pc : Int) := IntWalk.i64_in _ (by omega)
  have e2 : (tm : Int) % 60000 = (n : Int) := by omega
  have e3 : (pc : Int) % 63000 = (r : Int) := by omega
  have e2' : (tm : Int).tmod 60000 = (n : Int) := by rw [Int.tmod_eq_emod_of_nonneg (by omega)]; omega
  have e3' : (pc : Int).tmod 63000 = (r : Int) := by rw [Int.tmod_eq_emod_of_nonneg (by omega)]; omega
  have e4 : IntKind.i64.wrap (2000 + (r : Int)) = (k : Int) := by rw [IntWalk.i64_in _ (by omega)]; omega
  have KA := Lib.hid (awake12_any w)
  have HL := Lib.hid (hsm x n k hn6 hk6.1 hk6.2)
  have HN := Lib.hid (And.intro hn6 hk6)
  obtain ⟨i, hi, hz0, hz1, hz2⟩ := info_parts info_u8
  clear hsm hx hxx hn hr hk hn6 hk6 hxv htm hpc
  go_enter Try.func4, Try.ntmps4
  go_wp2_with fail
  refine KA.out.mono ?_
  rintro e w1 ⟨rfl, hb1⟩
  have HB1 := Lib.hid hb1
  clear hb1 KA
  go_wp2_with fail
  clear e0 e1 e2 e3 e2' e3' e4
  go_loopw [9, 10] (fun v u wr => ∃ (j : Nat) (R : Option Addr) (cl : Nat), j ≤ n ∧ v = .slice R j cl ∧ u = .int .i64 (j : Int) ∧ wr.ownsRow w1.heap.size 5 1 (.slice R j cl) j (bv (List.replicate j x)) ∧ Below w1.heap.size w1 wr) (fun _ u _ => n - (intOf u).toNat)
  case atStart => exact ⟨0, none, 0, Nat.zero_le _, rfl, rfl, World.ownsRow_nil _ _ _ _, Below.refl _ _⟩
  case round =>
    obtain ⟨j, R, cl, hj, rfl, rfl, ho, hb⟩ := hrel
    have HO := Lib.hid (And.intro ho hb)
    clear ho hb
    by_cases hlt : j < n
    · have i0 : (j : Int) < (n : Int) := by omega
      have e5 : IntKind.i64.wrap ((j : Int) + 1) = (j : Int) + 1 := IntWalk.i64_in _ (by have := HN.out.1; omega)
      have HLT := Lib.hid hlt
      clear hlt
      go_wp2_with (first
        | (at_builtin; refine wpList_appO _ rfl (.tmp 28) (.tmp 30) 22 rfl w1.heap.size 5 i _ 1 Try.underlying22 hi hz0 hz1 hz2 rfl _ j (bv (List.replicate j x)) rfl (HO.out.1.alloc _) _ 1 1 (bv [x]) rfl (sl_b1 wr x) (bv_one _) (by have := HN.out.1; omega) (by decide) (by have := HO.out.2.size; simp; omega) ?_)
        | fail)
      intro A2 c2 w3 ho3 hg3 _
      have hb3 : Below w1.heap.size w1 w3 := (HO.out.2.alloc HO.out.2.size _).grown hg3 (by have := HO.out.2.size; simp; omega) (fun q hq => (HO.out.1.lt q hq).1)
      have ho3 : w3.ownsRow w1.heap.size 5 1 (.slice A2 (j + 1) c2) (j + 1) (bv (List.replicate (j + 1) x)) := by
        have e : bv (List.replicate j x) ++ bv [x] = bv (List.replicate (j + 1) x) := by rw [← bv_append, List.replicate_succ']
        rw [← e]
        exact ho3
      have HO3 := Lib.hid (And.intro ho3 hb3)
      clear ho3 hg3 hb3 HO
      go_wp2_with fail
      go_roundw
      case rel => exact ⟨j + 1, A2, c2, HLT.out, rfl, by go_num, HO3.out.1, HO3.out.2⟩
      case measure => have := HLT.out; simp [intOf]; omega
    · obtain rfl : j = n := by omega
      have i0 : ¬ (j : Int) < (j : Int) := by omega
      obtain ⟨f1, f2, f3, _⟩ := own_facts HO.out.1
      have KP := kpack_any (w := wr) (A := R) (n := j) (c := cl) (p := k) (b := List.replicate j x) (lc := 3) (lp := 0) (pb := 2) (dict := 65536) setOk_small (by decide) (by have := HN.out; omega) (by have := HN.out; omega) f1 (by have := HN.out; omega) f2 f3
      have KP := Lib.hid (show Calls Try.prog 11 #[.slice R j cl, .agg #[.int .i64 3, .int .i64 0, .int .i64 2, .int .i64 65536], .int .i64 (k : Int)] wr (KPackPost wr (List.replicate j x) 3 0 2 65536 k) from KP)
      obtain ⟨C, hC⟩ : ∃ C, C = packN (List.replicate j x) 3 0 2 65536 k := ⟨_, rfl⟩
      unfold KPackPost at KP
      rw [← hC] at KP HL
      obtain ⟨qq, hqq⟩ : ∃ q, q = j / k := ⟨_, rfl⟩
      obtain ⟨hh, hhh⟩ : ∃ q, q = j / 200 := ⟨_, rfl⟩
      obtain ⟨q1, hq1⟩ : ∃ q, q = qq + 1 := ⟨_, rfl⟩
      obtain ⟨q2, hq2⟩ : ∃ q, q = 40 * q1 := ⟨_, rfl⟩
      obtain ⟨q3, hq3⟩ : ∃ q, q = 1 + q2 := ⟨_, rfl⟩
      obtain ⟨q4, hq4⟩ : ∃ q, q = q3 + hh := ⟨_, rfl⟩
      obtain ⟨⟨n1, n2, n3, n4, n5⟩, k3, k4⟩ := small_nums HN.out.1 hqq hhh hq1 hq2 hq3 hq4 HL.out
      have k0 : ¬ (k : Int) = 0 := by have := HN.out; omega
      clear f1 f2 f3 hC hlt hj hqq hhh HL hq1 hq2 hq3 hq4
      go_wp2_with fail
      refine KP.out.mono ?_
      rintro e w5 ⟨R5, c5, r5, rfl, _, _, _, _, hb5⟩
      have HB5 := Lib.hid (below_gg (below_gg HB1.out (HO.out.2.mono (Nat.le_refl _)) (Nat.le_refl _)) hb5 (Nat.le_refl _))
      clear hb5 KP HO
      go_wp2_with fail
      go_ret
      exact ⟨rfl, HB5.out⟩
end Go.Proofs.Ytjganponepafpaa

/-
  One byte again and again is packed into few.
-/
namespace Go.Proofs.Ytjganponepafpaa
open Go.RowKit

theorem psi_le {ps : List Nat} : ∀ {l : List Nat}, (∀ i ∈ l, sto (qAt ps i) ≤ 22) → psiL ps l ≤ 22 * l.length
  | [], _ => Nat.le_refl _
  | i :: l, h => by
    have ih := psi_le (ps := ps) (l := l) fun i hi => h i (List.mem_cons_of_mem _ hi)
    have h1 := h i List.mem_cons_self
    show (List.map (fun i => sto (qAt ps i)) (i :: l)).sum ≤ _
    rw [List.map_cons, List.sum_cons, List.length_cons]
    have ih : (List.map (fun i => sto (qAt ps i)) l).sum ≤ 22 * l.length := ih
    omega
theorem smp_start {t : Pm En} (hp : PsOk t.ps) (hl : t.ps.length = 7991) (hx : t.x = En.new) (hlo : ∀ i ∈ spL, 992 ≤ qAt t.ps i) : Smp t 440 := by
  have hok : Okc t 0 := ⟨hp, hl.symm, by rw [hx]; exact enOk_new, by rw [hx]; exact bud_new⟩
  refine ⟨⟨0, hok, ?_⟩, hlo⟩
  have := psi_le (ps := t.ps) (l := spL) fun i hi => (okS_at (qAt_ok hok (Nat.lt_trans (sp_lt i hi) (by decide))) (hlo i hi)).2
  have h20 : spL.length = 20 := rfl
  rw [h20] at this
  omega
theorem l_bound {l C0 N D D' X : Nat} (h : 128 * (l - 5) ≤ 16 + (C0 + 168 * N + 688 + 1372)) (hC : C0 ≤ 1322) (h1 : 273 * N ≤ D) (h2 : D ≤ D') (h3 : D' < 200 * X + 200) : l ≤ 34 + X := by omega
theorem lo_fresh (k : Nat) (hk : 1847 ≤ k) : ∀ i ∈ spL, 992 ≤ qAt (List.replicate k 1024) i := fun i hi => by
  unfold qAt
  have e : (List.replicate k 1024).getD i 0 = 1024 := by
    rw [List.getD_eq_getElem?_getD, List.getElem?_replicate, if_pos (by have := sp_lt i hi; omega)]
    rfl
  rw [e]
  unfold qOf
  split <;> decide
section
variable {x : UInt8} {n F T : Nat} {s : Lzs × Pm En}
/-- a piece -/
theorem piece_small (hc : Cmd (List.replicate n x) 65536 7991 F s) (hpb : s.1.pb = 2) (hr : s.1.r0 = 0 ∧ s.1.r1 = 0 ∧ s.1.r2 = 0 ∧ s.1.r3 = 0) (hlo : ∀ i ∈ spL, 992 ≤ qAt s.2.ps i) (hst : F = 0 → s.1.st = 0) (hFT : F < T) (hT : T ≤ n) (hn : n < 60000) :
    (runL (findS (List.replicate n x) 65536 F T s.1) s).2.x.l ≤ 34 + (T - F) / 200 ∧ (2000 ≤ T - F → ∀ i ∈ spL, 992 ≤ qAt (runL (findS (List.replicate n x) 65536 F T s.1) s).2.ps i) ∧
    (runL (findS (List.replicate n x) 65536 F T s.1) s).1.r0 = 0 ∧ (runL (findS (List.replicate n x) 65536 F T s.1) s).1.r1 = 0 ∧ (runL (findS (List.replicate n x) 65536 F T s.1) s).1.r2 = 0 ∧ (runL (findS (List.replicate n x) 65536 F T s.1) s).1.r3 = 0 := by
  obtain ⟨Q, hQ0⟩ : ∃ Q, Q = findS (List.replicate n x) 65536 F T s.1 := ⟨_, rfl⟩
  rw [← hQ0]
  obtain ⟨s0, hs0⟩ : ∃ s0 : Ps, s0 = ⟨F, 0, 0, 0, 0⟩ := ⟨_, rfl⟩
  have hQ : Q = (goF (List.replicate n x) 65536 T s0 T).1 := by
    rw [hQ0, hs0]
    unfold findS
    rw [hr.1, hr.2.1, hr.2.2.1, hr.2.2.2]
    rfl
  unfold runL
  obtain ⟨q, hq⟩ : ∃ q : Nat → Pq, q = fun h => Q.getD h ⟨0, 0, 0, 0⟩ := ⟨_, rfl⟩
  rw [← hq]
  have hi0 : s0.i = F := by rw [hs0]
  have hT1 : T ≤ (List.replicate n x).length := by rw [rep_len]; exact hT
  have hlen : Q.length ≤ T := by rw [hQ]; exact go_len T
  have htol0 : Tol (List.replicate n x) 65536 7991 (0 + 27 * Q.length) s0 s := by
    have := hc.tol (k := 0 + 27 * Q.length) (by omega)
    rw [hr.1, hr.2.1, hr.2.2.1, hr.2.2.2] at this
    rw [hs0]
    exact this
  have hm : (goF (List.replicate n x) 65536 T s0 T).1.length = Q.length := by rw [hQ]
  have hqs : ∀ h, h < Q.length → q h = (stepF (List.replicate n x) 65536 T (goF (List.replicate n x) 65536 T s0 h).2).1 := fun h hh => by
    obtain ⟨_, g2, _⟩ := go_get (b := List.replicate n x) (dict := 65536) (e := T) (s := s0) T h (by rw [hm]; exact hh)
    rw [← hQ] at g2
    rw [hq]
    show Q.getD h _ = _
    rw [List.getD_eq_getElem?_getD, g2]
    rfl
  have htol : ∀ h, h ≤ Q.length → Tol (List.replicate n x) 65536 7991 (27 * (Q.length - h)) (goF (List.replicate n x) 65536 T s0 h).2 (runT q s h) := fun h hh => by
    have := tol_run htol0 hT1 T hm hqs h hh
    rwa [Nat.zero_add] at this
  have hend : (goF (List.replicate n x) 65536 T s0 T).2.i = T := by
    have e1 := go_end (b := List.replicate n x) (dict := 65536) (e := T) (s := s0) (by rw [hi0]; exact Nat.le_of_lt hFT) T
    by_cases hl : (goF (List.replicate n x) 65536 T s0 T).2.i < T
    · have e2 := go_more (b := List.replicate n x) (dict := 65536) (e := T) (s := s0) T hl
      omega
    · omega
  have hsm := smp_start hc.ps hc.len hc.x hlo
  have hfull := go_full (b := List.replicate n x) (dict := 65536) (e := T) (s := s0) T
  rw [hm] at hfull
  have hreps : ∀ (o F' : Nat), 1 ≤ F' → F' ≤ T → F ≤ F' → o ≤ Q.length → (goF (List.replicate n x) 65536 T s0 o).2 = ⟨F', 0, 0, 0, 0⟩ → ∀ C0, C0 ≤ 1322 → Smp (runT q s o).2 C0 → (runT q s o).1.pb = 2 → T - F' + 1 ≥ T - F →
      (runT q s Q.length).2.x.l ≤ 34 + (T - F) / 200 ∧ (2000 ≤ T - F → ∀ i ∈ spL, 992 ≤ qAt (runT q s Q.length).2.ps i) := by
    intro o F' h1 h2 h3 h4 h5 C0 h6 h7 h8 h9
    have hout := run_all (x := x) (F := F') hQ hT (by omega) h1 h2 h4 h5 htol hqs h8 h7 hend
    have hbl := hout.ok.bud.len hout.ok.x.2.1
    have hN : 273 * ((T - F') / 273) ≤ T - F' := Nat.mul_div_le _ _
    have hX : T - F < 200 * ((T - F) / 200) + 200 := by
      have := Nat.lt_mul_div_succ (T - F) (show 0 < 200 by decide)
      rwa [Nat.mul_succ] at this
    refine ⟨l_bound hbl h6 hN (by omega) hX, fun h20 => hout.lo ?_⟩
    exact (Nat.le_div_iff_mul_le (by decide)).2 (by omega)
  have hz : (goF (List.replicate n x) 65536 T s0 Q.length).2.r0 = 0 ∧ (goF (List.replicate n x) 65536 T s0 Q.length).2.r1 = 0 ∧ (goF (List.replicate n x) 65536 T s0 Q.length).2.r2 = 0 ∧ (goF (List.replicate n x) 65536 T s0 Q.length).2.r3 = 0 := by
    have key : ∀ h, (goF (List.replicate n x) 65536 T s0 h).2.r0 = 0 ∧ (goF (List.replicate n x) 65536 T s0 h).2.r1 = 0 ∧ (goF (List.replicate n x) 65536 T s0 h).2.r2 = 0 ∧ (goF (List.replicate n x) 65536 T s0 h).2.r3 = 0 := by
      intro h
      induction h with
      | zero => rw [hs0]; exact ⟨rfl, rfl, rfl, rfl⟩
      | succ h ih =>
        by_cases hl : (goF (List.replicate n x) 65536 T s0 h).2.i < T
        · rw [go_succ hl]
          generalize (goF (List.replicate n x) 65536 T s0 h).2 = p at *
          obtain ⟨i, a, b, c, d⟩ := p
          obtain ⟨rfl, rfl, rfl, rfl⟩ := ih
          show (stepF _ _ _ ⟨i, 0, 0, 0, 0⟩).2.r0 = 0 ∧ (stepF _ _ _ ⟨i, 0, 0, 0, 0⟩).2.r1 = 0 ∧ (stepF _ _ _ ⟨i, 0, 0, 0, 0⟩).2.r2 = 0 ∧ (stepF _ _ _ ⟨i, 0, 0, 0, 0⟩).2.r3 = 0
          rcases Nat.eq_zero_or_pos i with h0 | h0
          · subst h0
            rw [one_first (by omega)]
            exact ⟨rfl, rfl, rfl, rfl⟩
          · rw [one_step h0 hl hT (by omega)]
            split <;> exact ⟨rfl, rfl, rfl, rfl⟩
        · rw [go_same hl]
          exact ih
    exact key _
  have hpar := (htol Q.length (Nat.le_refl _)).par
  refine ⟨?_, ?_, hpar.r0.trans hz.1, hpar.r1.trans hz.2.1, hpar.r2.trans hz.2.2.1, hpar.r3.trans hz.2.2.2⟩
  all_goals
    rcases Nat.eq_zero_or_pos F with h0 | h0
    · -- the first piece
      subst h0
      have hs00 : (goF (List.replicate n x) 65536 T s0 0).2 = ⟨0, 0, 0, 0, 0⟩ := hs0
      have hQ1 : 1 ≤ Q.length := by
        rcases Nat.eq_zero_or_pos Q.length with h | h
        · rw [h] at hfull
          rw [← hfull, hs00] at hend
          have hend : 0 = T := hend
          omega
        · exact h
      have hg1 : (goF (List.replicate n x) 65536 T s0 1).2 = ⟨1, 0, 0, 0, 0⟩ := by
        rw [go_succ (n := 0) (by rw [hs00]; exact hFT), hs00]
        show (stepF (List.replicate n x) 65536 T ⟨0, 0, 0, 0, 0⟩).2 = _
        rw [one_first (by omega)]
      have hq0 := hqs 0 hQ1
      rw [hs00, one_first (by omega)] at hq0
      have ht := htol 0 (Nat.zero_le _)
      rw [hs00, show 27 * (Q.length - 0) = 27 * (Q.length - 1) + 27 by omega] at ht
      obtain ⟨_, hf, _⟩ := tol_step ht hFT hT1
      rw [one_first (by omega)] at hf
      have hP : stepP s (⟨0, (x.toNat : Int), 0, 0⟩ : Pq).pk = (packP encM s.1 s.2 (⟨0, (x.toNat : Int), 0, 0⟩ : Pq).pk).2 := if_pos hf
      have hout : s.1.out = [] := by rw [hc.par.out]; rfl
      obtain ⟨p1, p2⟩ := pack_lit (p := (⟨0, (x.toNat : Int), 0, 0⟩ : Pq).pk) hsm hout rfl (hst rfl) hc.par.bad
      have hlike := packP_like encM s.1 s.2 (⟨0, (x.toNat : Int), 0, 0⟩ : Pq).pk
      have hrun : runT q s 1 = (packP encM s.1 s.2 (⟨0, (x.toNat : Int), 0, 0⟩ : Pq).pk).2 := by
        show stepP s (q 0).pk = _
        rw [hq0]
        exact hP
      have := hreps 1 1 (Nat.le_refl _) (by omega) (by omega) hQ1 hg1 1322 (Nat.le_refl _) (by rw [hrun]; exact p1) (by rw [hrun]; exact hlike.pb.trans hpb) (by omega)
      first | exact this.1 | exact this.2
    · have := hreps 0 F h0 (by omega) (Nat.le_refl _) (Nat.zero_le _) hs0 440 (by decide) hsm hpb (by omega)
      first | exact this.1 | exact this.2
end
theorem pre_small {how : Nat} {s : Lzs × Pm En} (hr : s.1.r0 = 0 ∧ s.1.r1 = 0 ∧ s.1.r2 = 0 ∧ s.1.r3 = 0) (hl : 1847 ≤ s.2.ps.length) (hlo : ∀ i ∈ spL, 992 ≤ qAt s.2.ps i) :
    ((preS how s).1.r0 = 0 ∧ (preS how s).1.r1 = 0 ∧ (preS how s).1.r2 = 0 ∧ (preS how s).1.r3 = 0) ∧ (∀ i ∈ spL, 992 ≤ qAt (preS how s).2.ps i) ∧ (how = 3 → (preS how s).1.st = 0) := by
  unfold preS
  by_cases h : how = 0
  · rw [if_pos h]
    exact ⟨hr, hlo, fun h3 => by omega⟩
  · rw [if_neg h]
    exact ⟨⟨rfl, rfl, rfl, rfl⟩, lo_fresh _ hl, fun _ => rfl⟩
section
variable {x : UInt8} {n p : Nat}
/-- what holds ahead of piece number j -/
structure Ahd (n p j : Nat) (a : Nat × Ckn) : Prop where
  r : a.2.s.1.r0 = 0 ∧ a.2.s.1.r1 = 0 ∧ a.2.s.1.r2 = 0 ∧ a.2.s.1.r3 = 0
  lo : ∀ i ∈ spL, 992 ≤ qAt a.2.s.2.ps i
  how : j = 0 → a.2.how = 3
theorem ahd_piece {j : Nat} {a : Nat × Ckn} (hn : n < 60000) (hp : 2000 ≤ p) (hj : j * p < n) (h : Ahd n p j a) (hw : Ckw (List.replicate n x) 3 0 2 65536 p j a) (hat : a.1 = min (j * p) n) :
    (strS (List.replicate n x) 65536 (min a.1 n) (min (a.1 + (cutB (List.replicate n x) p j).length) n) a.2.how a.2.s).2.x.l ≤ 34 + min p (n - j * p) / 200 ∧
    ((j + 1) * p < n → Ahd n p (j + 1) (stepQ (List.replicate n x) (headB 3 0 2) 65536 p a j)) := by
  have hcl : (cutB (List.replicate n x) p j).length = min p (n - j * p) := by rw [cutB_len, rep_len]
  have hF : min a.1 n = j * p := by omega
  have hcmd := hw.cmd
  rw [rep_len, hF] at hcmd
  have hL : 1847 + 768 * 2 ^ (3 + 0) = 7991 := by decide
  rw [hL] at hcmd
  obtain ⟨q1, q2, q3⟩ := pre_small (how := a.2.how) h.r (by rw [hcmd.len]; decide) h.lo
  have hpb : (preS a.2.how a.2.s).1.pb = 2 := (pre_set (how := a.2.how) (s := a.2.s)).2.2.trans hw.set.2.2
  obtain ⟨T, hT⟩ : ∃ T, T = min (a.1 + (cutB (List.replicate n x) p j).length) n := ⟨_, rfl⟩
  have hTd : T = j * p + min p (n - j * p) := by rw [hT, hcl]; omega
  have hst : j * p = 0 → (preS a.2.how a.2.s).1.st = 0 := fun h0 => by
    rcases Nat.mul_eq_zero.1 h0 with h1 | h1
    · exact q3 (h.how h1)
    · omega
  obtain ⟨g1, g2, g3⟩ := piece_small (x := x) (n := n) (F := j * p) (T := T) hcmd.pre hpb q1 q2 hst (by omega) (by omega) hn
  have hstr : strS (List.replicate n x) 65536 (j * p) T a.2.how a.2.s = runL (findS (List.replicate n x) 65536 (j * p) T (preS a.2.how a.2.s).1) (preS a.2.how a.2.s) := rfl
  have hD : T - j * p = min p (n - j * p) := by omega
  rw [hD] at g1 g2
  refine ⟨by rw [hF, ← hT, hstr]; exact g1, fun hlt => ?_⟩
  have hsucc : (j + 1) * p = j * p + p := Nat.succ_mul j p
  have g2 := g2 (by omega)
  have hs : (stepQ (List.replicate n x) (headB 3 0 2) 65536 p a j).2.s = finS (runL (findS (List.replicate n x) 65536 (j * p) T (preS a.2.how a.2.s).1) (preS a.2.how a.2.s)) := by
    show (pieceN (List.replicate n x) (headB 3 0 2) 65536 a.1 (cutB (List.replicate n x) p j) a.2).s = _
    unfold pieceN
    rw [rep_len, hF, ← hT, hstr]
    split <;> rfl
  refine ⟨?_, ?_, fun h => absurd h (Nat.succ_ne_zero j)⟩
  · rw [hs]
    exact g3
  · rw [hs]
    exact g2
theorem ahd_all (hn : n < 60000) (hp : 2000 ≤ p) : ∀ j, j * p < n → Ahd n p j (foldQ (List.replicate n x) (headB 3 0 2) 65536 p (freshS 3 0 2 65536) (List.range j))
  | 0, _ => ⟨⟨rfl, rfl, rfl, rfl⟩, lo_fresh _ (by decide), fun _ => rfl⟩
  | j + 1, hj => by
    have hsucc : (j + 1) * p = j * p + p := Nat.succ_mul j p
    have ih := ahd_all hn hp j (by omega)
    have hw := ckw_fold (b := List.replicate n x) (p := p) (p0 := headB 3 0 2) setOk_small (by rw [rep_len]; omega) (List.range j)
    rw [List.length_range] at hw
    have hat := fold_at (b := List.replicate n x) (lc := 3) (lp := 0) (pb := 2) (dict := 65536) (p := p) j
    rw [rep_len] at hat
    rw [List.range_succ, foldQ_snoc]
    exact (ahd_piece hn hp (by omega) ih hw hat).2 hj
theorem small_owes : SmallOwes := by
  intro x n k hn hk hk2
  have hlen := rep_len x n
  have h := pack_le (b := List.replicate n x) (lc := 3) (lp := 0) (pb := 2) (dict := 65536) (p := k) (fun j hj => by
    have hj2 := (many_lt (by omega)).1 hj
    rw [hlen] at hj2 ⊢
    have hw := ckw_fold (b := List.replicate n x) (p := k) (p0 := headB 3 0 2) setOk_small (by rw [rep_len]; omega) (List.range j)
    rw [List.length_range] at hw
    have hat := fold_at (b := List.replicate n x) (lc := 3) (lp := 0) (pb := 2) (dict := 65536) (p := k) j
    rw [rep_len] at hat
    have := (ahd_piece hn hk hj2 (ahd_all hn hk j hj2) hw hat).1
    unfold strL
    rw [hlen]
    exact this) (by omega)
  rw [hlen] at h
  exact h
end
end Go.Proofs.Ytjganponepafpaa
