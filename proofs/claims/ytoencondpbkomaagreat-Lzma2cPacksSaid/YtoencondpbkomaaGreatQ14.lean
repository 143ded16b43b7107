/-
  CkPlain, CkStep, PsLong, PsWor, PsFin, PsPlc, PsLen: put together.
-/
import Derived.Test.YtoencondpbkomaaGreatQ13
import Derived.Test.YtoencondpbkomaaGreatQ06
import Derived.Test.YtoencondpbkomaaGreatQ01
import Derived.Deep.Cut
import Derived.Lib.BitFns
import Derived.Lib.Walk
set_option linter.unusedVariables false
set_option linter.unusedSimpArgs false
/-
  The coder of LZMA2: a plain chunk.
-/
namespace Go.Proofs.YtoencondpbkomaaGreat
open Go.RowKit

/-- from G in w to G' in w' : what is owned then was so, or is new; nothing else has turned -/
structure Stp (w : World) (G : Nat → Prop) (w' : World) (G' : Nat → Prop) : Prop where
  nw : ∀ i, G' i → G i ∨ w.heap.size ≤ i
  on : Only G w w'
theorem Stp.refl (w : World) (G : Nat → Prop) : Stp w G w G := ⟨fun _ h => .inl h, Only.refl _ _⟩
theorem Stp.trans {w w1 w2 : World} {G G1 G2 : Nat → Prop} (h : Stp w G w1 G1) (k : Stp w1 G1 w2 G2) : Stp w G w2 G2 :=
  ⟨fun i hi => by
    rcases k.nw i hi with e | e
    · exact h.nw i e
    · exact .inr (Nat.le_trans h.on.size e), h.on.trans' k.on h.nw⟩
theorem Stp.quiet {w w1 w2 : World} {G G1 : Nat → Prop} (h : Stp w G w1 G1) (k : Only (fun _ => False) w1 w2) : Stp w G w2 G1 := ⟨h.nw, h.on.trans (k.mono fun _ h => h.elim)⟩
/-- bytes of others stay -/
def Apt (B : Option Addr) (G : Nat → Prop) : Prop := ∀ q o, B = some ⟨q, o, none⟩ → ¬ G q
theorem Stp.sl {w w1 : World} {G G1 : Nat → Prop} {B : Option Addr} {n : Nat} {xs : List Value} (h : Stp w G w1 G1) (hS : Sl w B n xs) (ha : Apt B G) : Sl w1 B n xs := hS.only h.on fun _ q o e => ha q o e
theorem Stp.own {P : World → (Nat → Prop) → Prop} {w w1 w2 : World} {G G1 : Nat → Prop} {v : Value} {e : Ending} (h : Stp w G w1 G1) (k : OwnPost P w1 G1 v e w2) : OwnPost P w G v e w2 := by
  obtain ⟨rfl, G2, hp, hn, ho⟩ := k
  obtain ⟨a, b⟩ := h.trans ⟨hn, ho⟩
  exact ⟨rfl, G2, hp, a, b⟩

section
variable {Q : Kq} {w : World} {F m how : Nat} {s : Lzs × Pm En} {out : List UInt8} {k : Ckn} {G : Nat → Prop}
theorem Kwn.hows (h : Kwn Q w F k m G) (x : Nat) : w.cell? ⟨Q.kg, 7, none⟩ = some (.int .i64 (k.how : Int)) ∧ w.frozen? ⟨Q.kg, 7, none⟩ = false ∧ Kwn Q (w.setCell ⟨Q.kg, 7, none⟩ (.int .i64 (x : Int))) F ⟨x, k.s, k.out⟩ m G ∧ Stp w G (w.setCell ⟨Q.kg, 7, none⟩ (.int .i64 (x : Int))) G := by
  obtain ⟨K, Ge, A, c, Ao, co, hs, hG⟩ := h
  have hO := (Only.refl (fun j => j = Q.kg) w).setCell (p := ⟨Q.kg, 7, none⟩) (.inl rfl) (.int .i64 (x : Int))
  refine ⟨hs.blk.cell 7, hs.blk.free 7, ⟨K, Ge, A, c, Ao, co, ⟨hs.blk.put 7 _, ?_, own_only' hs.own hO (fun i hi => (hs.oap i hi).2), hs.kap, hs.oap, hs.nl⟩, hG⟩, fun i hi => .inl hi, hO.mono fun i hi => (hG i).2 (.inr (.inl hi))⟩
  exact hs.cw.only hO (fun e => hs.kap (e ▸ .inl (.inr (.inr (.inl rfl))))) (fun e => hs.kap (e ▸ .inl (.inr (.inr (.inr rfl))))) (fun e => hs.kap (e ▸ .inl (.inl rfl))) (fun i hi e => hs.kap (e ▸ .inl (.inr (.inl hi)))) (fun i hi e => hs.kap (e ▸ .inr hi))
set_option maxRecDepth 100000 in
set_option maxHeartbeats 8000000 in
theorem kplain_any {B : Option Addr} {n c : Nat} {xs : List UInt8} (h : Kwn Q w F ⟨how, s, out⟩ m G) (hh : how ≤ 3) (hS : Sl w B n (bv xs)) (ha : Apt B G) (hn : 1 ≤ n) (hn2 : n ≤ 65536) (ho : out.length ≤ 90000000) :
    Calls Tryz.prog 30 #[.pointer (some ⟨Q.kg, 0, none⟩), .slice B n c] w (OwnPost (fun w G => Kwn Q w F ⟨nextH how, s, out ++ plainB how xs⟩ m G) w G (.tuple #[])) := by
  obtain ⟨i, hi, hz0, hz1, hz2⟩ := info_parts info_u8
  have hxl : xs.length = n := by rw [← bv_length]; exact hS.1
  have HS := Lib.hid (And.intro hS ha)
  have HN := Lib.hid (And.intro hn (And.intro hn2 (And.intro ho hxl)))
  have HK := Lib.hid h
  clear hS ha hn hn2 ho hxl h
  have h3 : how = 3 ∨ how = 0 ∨ (how ≠ 3 ∧ how ≠ 0) := by omega
  rcases h3 with e3 | e0 | ⟨n3, n0⟩
  · subst e3
    obtain ⟨c7, f7, k7, s7⟩ := HK.out.hows 2
    have c7 : w.cell? ⟨Q.kg, 7, none⟩ = some (.int .i64 3) := c7
    have HK2 := Lib.hid (show Kwn Q _ F ⟨nextH 3, s, out⟩ m G from k7)
    have HS2 := Lib.hid s7
    clear k7 s7
    clear HK hh
    go_enter Tryz.func30, Tryz.ntmps30
    go_upto_region 6 with fail
    have hw2 : w.setCell ⟨Q.kg, 7, none⟩ (.int .i64 ((2 : Nat) : Int)) = w.setCell ⟨Q.kg, 7, none⟩ (.int .i64 2) := rfl
    rw [hw2] at HK2 HS2
    clear hw2
    generalize w.setCell ⟨Q.kg, 7, none⟩ (.int .i64 2) = w2 at *
    obtain ⟨K, Ge, A, cc, Ao, co, hs, hG⟩ := HK2.out
    have c8 : w2.cell? ⟨Q.kg, 8, none⟩ = some (.slice Ao out.length co) := hs.blk.cell 8
    have HT := Lib.hid (And.intro hs hG)
    clear hs hG
    go_wp2_with (first
      | (at_builtin; refine wpList_appO _ rfl (.tmp 23) (.tmp 25) 22 rfl 0 5 i _ 1 Tryz.underlying22 hi hz0 hz1 hz2 rfl _ out.length (bv out) rfl (HT.out.1.own.alloc _) _ 1 1 (bv [(1 : UInt8)]) rfl (sl_b1 w2 (1 : UInt8)) (bv_one _) (by have := HN.out; omega) (by decide) (Nat.zero_le _) ?_)
      | fail)
    intro A2 c2 w3 ho3 hg3 hv3
    obtain ⟨⟨d8, f8⟩, hp⟩ := HT.out.1.puts HT.out.2 (xs := [(1 : UInt8)]) (n := 1) rfl ((Only.refl _ w2).alloc _) ho3 hg3 (by simpa using hv3)
    obtain ⟨_, G3, k3, n3', o3'⟩ := HS2.out.own hp
    have HK3 := Lib.hid k3
    have HS3 := Lib.hid (Stp.mk n3' o3')
    clear ho3 hg3 hv3 hp c8 k3 n3' o3' HT HK2 HS2
    have HKC := Lib.hid (fun (n : Nat) (h1 : 1 ≤ n) (h2 : n ≤ 65536) (h3 : (out ++ [(1 : UInt8)]).length ≤ 100000000) => kcount_any (n := n) HK3.out h1 h2 h3)
    generalize hw4 : w3.setCell ⟨Q.kg, 8, none⟩ (.slice A2 (out.length + 1) c2) = w4 at HK3 HS3 HKC
    go_upto_region 7 with fail
    try rw [hw4]
    clear hw4 d8 f8
    have HKC := Lib.hid (HKC.out n HN.out.1 HN.out.2.1 (by have := HN.out; simp; omega))
    go_wp2_with fail
    refine HKC.out.mono ?_
    rintro e w5 hp5
    obtain ⟨rfl, G5, k5, n5, o5⟩ := HS3.out.own hp5
    obtain ⟨D, hD⟩ : ∃ D, D = (out ++ [(1 : UInt8)]) ++ cntB n := ⟨_, rfl⟩
    have k5 : Kwn Q w5 F ⟨nextH 3, s, D⟩ m G5 := by rw [hD]; exact k5
    have HK5 := Lib.hid k5
    have HS5 := Lib.hid (Stp.mk n5 o5)
    clear hp5 k5 n5 o5 HK3 HS3 HKC
    obtain ⟨K, Ge, A, cc, Ao, co, hs, hG⟩ := HK5.out
    have c8 : w5.cell? ⟨Q.kg, 8, none⟩ = some (.slice Ao D.length co) := hs.blk.cell 8
    have hlen : D.length = out.length + 3 := by rw [hD]; simp [cntB]
    have HD := Lib.hid hD
    clear hD
    rw [hlen] at c8
    have HT := Lib.hid (And.intro hs hG)
    have HL := Lib.hid hlen
    have hown : w5.ownsRow 0 5 1 (.slice Ao (out.length + 3) co) (out.length + 3) (bv D) := by rw [← hlen]; exact hs.own
    have HOW := Lib.hid hown
    have HSL := Lib.hid (HS5.out.sl HS.out.1 HS.out.2)
    clear hs hG hlen hown
    go_wp2_with (first
      | (at_builtin; refine wpList_appO _ rfl (.tmp 37) (.tmp 38) 22 rfl 0 5 i _ 1 Tryz.underlying22 hi hz0 hz1 hz2 rfl _ (out.length + 3) _ rfl HOW.out _ n _ (bv xs) rfl HSL.out (bv_one _) (by have := HN.out; omega) (by decide) (Nat.zero_le _) ?_)
      | fail)
    intro A6 c6 w6 ho6 hg6 hv6
    obtain ⟨⟨d8, f8⟩, hp⟩ := HT.out.1.puts HT.out.2 (xs := xs) (n := n) HN.out.2.2.2 (Only.refl _ w5) (by rw [HL.out]; exact ho6) (by rw [HL.out]; exact hg6) (by rw [HL.out]; exact hv6)
    rw [HL.out] at d8 hp
    have HP := Lib.hid (HS5.out.own hp)
    clear ho6 hg6 hv6 hp c8 HT HOW HSL HK5
    go_wp2_with fail
    first | go_end0 | refine bodyPost_ret (results_none rfl _ _ _) rfl ?_
    obtain ⟨_, G7, k7, n7, o7⟩ := HP.out
    refine ⟨rfl, G7, ?_, n7, o7⟩
    have e : out ++ plainB 3 xs = D ++ xs := by
      rw [HD.out]
      unfold plainB
      rw [HN.out.2.2.2]
      simp only [List.append_assoc]
      first | rfl | rw [if_neg HNE.out]
    rw [e]
    exact k7
  · subst e0
    obtain ⟨c7, f7, k7, s7⟩ := HK.out.hows 1
    have c7 : w.cell? ⟨Q.kg, 7, none⟩ = some (.int .i64 0) := c7
    have HK2 := Lib.hid (show Kwn Q _ F ⟨nextH 0, s, out⟩ m G from k7)
    have HS2 := Lib.hid s7
    clear k7 s7
    clear HK hh
    go_enter Tryz.func30, Tryz.ntmps30
    go_upto_region 6 with fail
    have hw2 : w.setCell ⟨Q.kg, 7, none⟩ (.int .i64 ((1 : Nat) : Int)) = w.setCell ⟨Q.kg, 7, none⟩ (.int .i64 1) := rfl
    rw [hw2] at HK2 HS2
    clear hw2
    generalize w.setCell ⟨Q.kg, 7, none⟩ (.int .i64 1) = w2 at *
    obtain ⟨K, Ge, A, cc, Ao, co, hs, hG⟩ := HK2.out
    have c8 : w2.cell? ⟨Q.kg, 8, none⟩ = some (.slice Ao out.length co) := hs.blk.cell 8
    have HT := Lib.hid (And.intro hs hG)
    clear hs hG
    go_wp2_with (first
      | (at_builtin; refine wpList_appO _ rfl (.tmp 23) (.tmp 25) 22 rfl 0 5 i _ 1 Tryz.underlying22 hi hz0 hz1 hz2 rfl _ out.length (bv out) rfl (HT.out.1.own.alloc _) _ 1 1 (bv [(2 : UInt8)]) rfl (sl_b1 w2 (2 : UInt8)) (bv_one _) (by have := HN.out; omega) (by decide) (Nat.zero_le _) ?_)
      | fail)
    intro A2 c2 w3 ho3 hg3 hv3
    obtain ⟨⟨d8, f8⟩, hp⟩ := HT.out.1.puts HT.out.2 (xs := [(2 : UInt8)]) (n := 1) rfl ((Only.refl _ w2).alloc _) ho3 hg3 (by simpa using hv3)
    obtain ⟨_, G3, k3, n3', o3'⟩ := HS2.out.own hp
    have HK3 := Lib.hid k3
    have HS3 := Lib.hid (Stp.mk n3' o3')
    clear ho3 hg3 hv3 hp c8 k3 n3' o3' HT HK2 HS2
    have HKC := Lib.hid (fun (n : Nat) (h1 : 1 ≤ n) (h2 : n ≤ 65536) (h3 : (out ++ [(2 : UInt8)]).length ≤ 100000000) => kcount_any (n := n) HK3.out h1 h2 h3)
    generalize hw4 : w3.setCell ⟨Q.kg, 8, none⟩ (.slice A2 (out.length + 1) c2) = w4 at HK3 HS3 HKC
    go_upto_region 7 with fail
    try rw [hw4]
    clear hw4 d8 f8
    have HKC := Lib.hid (HKC.out n HN.out.1 HN.out.2.1 (by have := HN.out; simp; omega))
    go_wp2_with fail
    refine HKC.out.mono ?_
    rintro e w5 hp5
    obtain ⟨rfl, G5, k5, n5, o5⟩ := HS3.out.own hp5
    obtain ⟨D, hD⟩ : ∃ D, D = (out ++ [(2 : UInt8)]) ++ cntB n := ⟨_, rfl⟩
    have k5 : Kwn Q w5 F ⟨nextH 0, s, D⟩ m G5 := by rw [hD]; exact k5
    have HK5 := Lib.hid k5
    have HS5 := Lib.hid (Stp.mk n5 o5)
    clear hp5 k5 n5 o5 HK3 HS3 HKC
    obtain ⟨K, Ge, A, cc, Ao, co, hs, hG⟩ := HK5.out
    have c8 : w5.cell? ⟨Q.kg, 8, none⟩ = some (.slice Ao D.length co) := hs.blk.cell 8
    have hlen : D.length = out.length + 3 := by rw [hD]; simp [cntB]
    have HD := Lib.hid hD
    clear hD
    rw [hlen] at c8
    have HT := Lib.hid (And.intro hs hG)
    have HL := Lib.hid hlen
    have hown : w5.ownsRow 0 5 1 (.slice Ao (out.length + 3) co) (out.length + 3) (bv D) := by rw [← hlen]; exact hs.own
    have HOW := Lib.hid hown
    have HSL := Lib.hid (HS5.out.sl HS.out.1 HS.out.2)
    clear hs hG hlen hown
    go_wp2_with (first
      | (at_builtin; refine wpList_appO _ rfl (.tmp 37) (.tmp 38) 22 rfl 0 5 i _ 1 Tryz.underlying22 hi hz0 hz1 hz2 rfl _ (out.length + 3) _ rfl HOW.out _ n _ (bv xs) rfl HSL.out (bv_one _) (by have := HN.out; omega) (by decide) (Nat.zero_le _) ?_)
      | fail)
    intro A6 c6 w6 ho6 hg6 hv6
    obtain ⟨⟨d8, f8⟩, hp⟩ := HT.out.1.puts HT.out.2 (xs := xs) (n := n) HN.out.2.2.2 (Only.refl _ w5) (by rw [HL.out]; exact ho6) (by rw [HL.out]; exact hg6) (by rw [HL.out]; exact hv6)
    rw [HL.out] at d8 hp
    have HP := Lib.hid (HS5.out.own hp)
    clear ho6 hg6 hv6 hp c8 HT HOW HSL HK5
    go_wp2_with fail
    first | go_end0 | refine bodyPost_ret (results_none rfl _ _ _) rfl ?_
    obtain ⟨_, G7, k7, n7, o7⟩ := HP.out
    refine ⟨rfl, G7, ?_, n7, o7⟩
    have e : out ++ plainB 0 xs = D ++ xs := by
      rw [HD.out]
      unfold plainB
      rw [HN.out.2.2.2]
      simp only [List.append_assoc]
      first | rfl | rw [if_neg HNE.out]
    rw [e]
    exact k7
  · have HNE := Lib.hid n3
    obtain ⟨c7, f7, _, _⟩ := HK.out.hows 1
    have c7 : w.cell? ⟨Q.kg, 7, none⟩ = some (.int .i64 (how : Int)) := c7
    have g3 : ¬ (how : Int) = 3 := by omega
    have g0 : ¬ (how : Int) = 0 := by omega
    have HK2 := Lib.hid (show Kwn Q w F ⟨nextH how, s, out⟩ m G by unfold nextH; rw [if_neg n3, if_neg n0]; exact HK.out)
    obtain ⟨w0, hw0⟩ : ∃ w0, w0 = w := ⟨_, rfl⟩
    have HS2 := Lib.hid (show Stp w0 G w G by rw [hw0]; exact Stp.refl w G)
    have HSx := Lib.hid (show Sl w0 B n (bv xs) ∧ Apt B G by rw [hw0]; exact HS.out)
    clear HS
    have HS := HSx
    clear HSx
    rw [show OwnPost (fun w G => Kwn Q w F ⟨nextH how, s, out ++ plainB how xs⟩ m G) w G (.tuple #[]) = OwnPost (fun w G => Kwn Q w F ⟨nextH how, s, out ++ plainB how xs⟩ m G) w0 G (.tuple #[]) by rw [hw0]]
    clear n3 n0 hw0
    clear HK hh
    go_enter Tryz.func30, Tryz.ntmps30
    go_upto_region 6 with fail
    generalize w = w2 at *
    obtain ⟨K, Ge, A, cc, Ao, co, hs, hG⟩ := HK2.out
    have c8 : w2.cell? ⟨Q.kg, 8, none⟩ = some (.slice Ao out.length co) := hs.blk.cell 8
    have HT := Lib.hid (And.intro hs hG)
    clear hs hG
    go_wp2_with (first
      | (at_builtin; refine wpList_appO _ rfl (.tmp 23) (.tmp 25) 22 rfl 0 5 i _ 1 Tryz.underlying22 hi hz0 hz1 hz2 rfl _ out.length (bv out) rfl (HT.out.1.own.alloc _) _ 1 1 (bv [(2 : UInt8)]) rfl (sl_b1 w2 (2 : UInt8)) (bv_one _) (by have := HN.out; omega) (by decide) (Nat.zero_le _) ?_)
      | fail)
    intro A2 c2 w3 ho3 hg3 hv3
    obtain ⟨⟨d8, f8⟩, hp⟩ := HT.out.1.puts HT.out.2 (xs := [(2 : UInt8)]) (n := 1) rfl ((Only.refl _ w2).alloc _) ho3 hg3 (by simpa using hv3)
    obtain ⟨_, G3, k3, n3', o3'⟩ := HS2.out.own hp
    have HK3 := Lib.hid k3
    have HS3 := Lib.hid (Stp.mk n3' o3')
    clear ho3 hg3 hv3 hp c8 k3 n3' o3' HT HK2 HS2
    have HKC := Lib.hid (fun (n : Nat) (h1 : 1 ≤ n) (h2 : n ≤ 65536) (h3 : (out ++ [(2 : UInt8)]).length ≤ 100000000) => kcount_any (n := n) HK3.out h1 h2 h3)
    generalize hw4 : w3.setCell ⟨Q.kg, 8, none⟩ (.slice A2 (out.length + 1) c2) = w4 at HK3 HS3 HKC
    go_upto_region 7 with fail
    try rw [hw4]
    clear hw4 d8 f8
    have HKC := Lib.hid (HKC.out n HN.out.1 HN.out.2.1 (by have := HN.out; simp; omega))
    go_wp2_with fail
    refine HKC.out.mono ?_
    rintro e w5 hp5
    obtain ⟨rfl, G5, k5, n5, o5⟩ := HS3.out.own hp5
    obtain ⟨D, hD⟩ : ∃ D, D = (out ++ [(2 : UInt8)]) ++ cntB n := ⟨_, rfl⟩
    have k5 : Kwn Q w5 F ⟨nextH how, s, D⟩ m G5 := by rw [hD]; exact k5
    have HK5 := Lib.hid k5
    have HS5 := Lib.hid (Stp.mk n5 o5)
    clear hp5 k5 n5 o5 HK3 HS3 HKC
    obtain ⟨K, Ge, A, cc, Ao, co, hs, hG⟩ := HK5.out
    have c8 : w5.cell? ⟨Q.kg, 8, none⟩ = some (.slice Ao D.length co) := hs.blk.cell 8
    have hlen : D.length = out.length + 3 := by rw [hD]; simp [cntB]
    have HD := Lib.hid hD
    clear hD
    rw [hlen] at c8
    have HT := Lib.hid (And.intro hs hG)
    have HL := Lib.hid hlen
    have hown : w5.ownsRow 0 5 1 (.slice Ao (out.length + 3) co) (out.length + 3) (bv D) := by rw [← hlen]; exact hs.own
    have HOW := Lib.hid hown
    have HSL := Lib.hid (HS5.out.sl HS.out.1 HS.out.2)
    clear hs hG hlen hown
    go_wp2_with (first
      | (at_builtin; refine wpList_appO _ rfl (.tmp 37) (.tmp 38) 22 rfl 0 5 i _ 1 Tryz.underlying22 hi hz0 hz1 hz2 rfl _ (out.length + 3) _ rfl HOW.out _ n _ (bv xs) rfl HSL.out (bv_one _) (by have := HN.out; omega) (by decide) (Nat.zero_le _) ?_)
      | fail)
    intro A6 c6 w6 ho6 hg6 hv6
    obtain ⟨⟨d8, f8⟩, hp⟩ := HT.out.1.puts HT.out.2 (xs := xs) (n := n) HN.out.2.2.2 (Only.refl _ w5) (by rw [HL.out]; exact ho6) (by rw [HL.out]; exact hg6) (by rw [HL.out]; exact hv6)
    rw [HL.out] at d8 hp
    have HP := Lib.hid (HS5.out.own hp)
    clear ho6 hg6 hv6 hp c8 HT HOW HSL HK5
    go_wp2_with fail
    first | go_end0 | refine bodyPost_ret (results_none rfl _ _ _) rfl ?_
    obtain ⟨_, G7, k7, n7, o7⟩ := HP.out
    refine ⟨rfl, G7, ?_, n7, o7⟩
    have e : out ++ plainB how xs = D ++ xs := by
      rw [HD.out]
      unfold plainB
      rw [HN.out.2.2.2]
      simp only [List.append_assoc]
      first | rfl | rw [if_neg HNE.out]
    rw [e]
    exact k7
end
end Go.Proofs.YtoencondpbkomaaGreat

/-
  The coder of LZMA2 in memory: its coder codes, begins anew, ends a stream.
-/
namespace Go.Proofs.YtoencondpbkomaaGreat
open Go.RowKit

section
variable {Q : Kq} {K : Koc} {w w' : World} {Ge : Option Nat} {A : Option Addr} {c F m : Nat} {k : Ckn} {Ao : Option Addr} {co : Nat} {G : Nat → Prop}
/-- the coder has gone on; its own blocks are what they were, or new -/
theorem Kst.turn {K' : Koc} {Ge' : Option Nat} {A' : Option Addr} {c' m' : Nat} {s' : Lzs × Pm En} (h : Kst Q K w Ge A c F k m Ao co) (hG : ∀ i, G i ↔ Kow Q K Ge (tb A k.s.1.out.length c) (tb Ao k.out.length co) i)
    (hg : K'.g = K.g) (hnl : K'.nl = K.nl) (hc : Cw K' w' Ge' A' c' s'.1 m' s'.2) (hn : ∀ i, K'.all Ge' (tb A' s'.1.out.length c') i → K.all Ge (tb A k.s.1.out.length c) i ∨ w.heap.size ≤ i) (hO : Only (K.all Ge (tb A k.s.1.out.length c)) w w') :
    Kst Q K' w' Ge' A' c' F ⟨k.how, s', k.out⟩ m' Ao co ∧ Stp w G w' (Kow Q K' Ge' (tb A' s'.1.out.length c') (tb Ao k.out.length co)) := by
  have hlt := h.blk.lt
  refine ⟨⟨?_, hc, own_only' h.own hO (fun i hi => (h.oap i hi).1), ?_, ?_, hnl.trans h.nl⟩, ?_, hO.mono fun i hi => (hG i).2 (.inl hi)⟩
  · have := h.blk.only hO h.kap
    unfold ckCells at this ⊢
    rw [hg]
    exact this
  · intro hk
    rcases hn _ hk with e | e
    · exact h.kap e
    · omega
  · intro i hi
    have hi2 := h.oap i hi
    have hol := own_old h.own hi
    refine ⟨fun hk => ?_, hi2.2⟩
    rcases hn _ hk with e | e
    · exact hi2.1 e
    · omega
  · rintro i (e | e | e)
    · rcases hn i e with e | e
      · exact .inl ((hG i).2 (.inl e))
      · exact .inr e
    · exact .inl ((hG i).2 (.inr (.inl e)))
    · exact .inl ((hG i).2 (.inr (.inr e)))
theorem Kst.own' {K' : Koc} {Ge' : Option Nat} {A' : Option Addr} {c' m' : Nat} {s' : Lzs × Pm En} (v : Value) (h : Kst Q K' w' Ge' A' c' F ⟨k.how, s', k.out⟩ m' Ao co ∧ Stp w G w' (Kow Q K' Ge' (tb A' s'.1.out.length c') (tb Ao k.out.length co))) :
    OwnPost (fun w G => Kwn Q w F ⟨k.how, s', k.out⟩ m' G) w G v (.returned v) w' := ⟨rfl, _, ⟨K', Ge', A', c', Ao, co, h.1, fun i => Iff.rfl⟩, h.2.nw, h.2.on⟩
theorem Kst.code {s' : Lzs × Pm En} {m' : Nat} {v : Value} {e : Ending} (h : Kst Q K w Ge A c F k m Ao co) (hG : ∀ i, G i ↔ Kow Q K Ge (tb A k.s.1.out.length c) (tb Ao k.out.length co) i)
    (hp : CPut K w Ge (tb A k.s.1.out.length c) v s'.1 m' s'.2 e w') : OwnPost (fun w G => Kwn Q w F ⟨k.how, s', k.out⟩ m' G) w G v e w' := by
  obtain ⟨rfl, Ge', A', c', hc, n1, n2, hO⟩ := hp
  refine Kst.own' _ (h.turn hG rfl rfl hc ?_ hO)
  rintro i ((e | e | e | e) | e)
  · exact .inl (.inl (.inl e))
  · exact (n1 i e).imp (fun e => .inl (.inr (.inl e))) id
  · exact .inl (.inl (.inr (.inr (.inl e))))
  · exact .inl (.inl (.inr (.inr (.inr e))))
  · exact (n2 i e).imp (fun e => .inr e) id
theorem Kst.re {m' : Nat} {e : Ending} (h : Kst Q K w Ge A c F k m Ao co) (hG : ∀ i, G i ↔ Kow Q K Ge (tb A k.s.1.out.length c) (tb Ao k.out.length co) i)
    (hp : AnewPost K w Ge A c k.s m' e w') : OwnPost (fun w G => Kwn Q w F ⟨k.how, reS k.s, k.out⟩ m' G) w G (.tuple #[]) e w' := by
  obtain ⟨rfl, lb, hlb, hc, hO⟩ := hp
  refine Kst.own' _ (h.turn (K' := ⟨K.g, lb, K.nl, K.eg⟩) hG rfl rfl hc ?_ (hO.mono fun i hi => hi ▸ .inl (.inr (.inr (.inl rfl)))))
  rintro i ((e | e | e | e) | e)
  · exact .inl (.inl (.inl e))
  · exact .inl (.inl (.inr (.inl e)))
  · exact .inl (.inl (.inr (.inr (.inl e))))
  · exact .inr (by have e : i = lb := e; omega)
  · exact .inl (.inr e)
theorem Kwn.fat (h : Kwn Q w F k m G) (x : Nat) : w.cell? ⟨Q.kg, 1, none⟩ = some (.int .i64 (F : Int)) ∧ w.frozen? ⟨Q.kg, 1, none⟩ = false ∧ Kwn Q (w.setCell ⟨Q.kg, 1, none⟩ (.int .i64 (x : Int))) x k m G ∧ Stp w G (w.setCell ⟨Q.kg, 1, none⟩ (.int .i64 (x : Int))) G := by
  obtain ⟨K, Ge, A, c, Ao, co, hs, hG⟩ := h
  have hO := (Only.refl (fun j => j = Q.kg) w).setCell (p := ⟨Q.kg, 1, none⟩) (.inl rfl) (.int .i64 (x : Int))
  refine ⟨hs.blk.cell 1, hs.blk.free 1, ⟨K, Ge, A, c, Ao, co, ⟨hs.blk.put 1 _, ?_, own_only' hs.own hO (fun i hi => (hs.oap i hi).2), hs.kap, hs.oap, hs.nl⟩, hG⟩, fun i hi => .inl hi, hO.mono fun i hi => (hG i).2 (.inr (.inl hi))⟩
  exact hs.cw.only hO (fun e => hs.kap (e ▸ .inl (.inr (.inr (.inl rfl))))) (fun e => hs.kap (e ▸ .inl (.inr (.inr (.inr rfl))))) (fun e => hs.kap (e ▸ .inl (.inl rfl))) (fun i hi e => hs.kap (e ▸ .inl (.inr (.inl hi)))) (fun i hi e => hs.kap (e ▸ .inr hi))
theorem Kst.again {m' : Nat} (h : Kst Q K w Ge A c F k m Ao co) (hk : PmOk okE (1847 + 768 * 2 ^ (Q.lc + Q.lp)) m' k.s.2) : Kst Q K w Ge A c F k m' Ao co :=
  ⟨h.blk, h.cw.again (by rw [h.nl]; exact hk), h.own, h.kap, h.oap, h.nl⟩
theorem Pkts.only {S : Nat → Prop} {B : Option Addr} {n : Nat} {q : Nat → Pq} (h : Pkts w B n q) (hO : Only S w w') (ha : Apt B S) : Pkts w' B n q := by
  intro hm
  obtain ⟨b, o, e, hlt, hc⟩ := h hm
  have hbk := hO.block b hlt (ha b o e)
  refine ⟨b, o, e, Nat.lt_of_lt_of_le hlt hO.size, fun i hi => ?_⟩
  obtain ⟨r1, r2, r3, r4⟩ := hc i hi
  exact ⟨(World.cell?_of_block hbk).trans r1, (World.cell?_of_block hbk).trans r2, (World.cell?_of_block hbk).trans r3, (World.cell?_of_block hbk).trans r4⟩
theorem four_set {S : Nat → Prop} {a wb : World} {X : Nat} {v0 v1 v2 v3 : Value} (h : Only S a wb) (hX : S X ∨ a.heap.size ≤ X) : Only S a ((((wb.setCell ⟨X, 0, none⟩ v0).setCell ⟨X, 1, none⟩ v1).setCell ⟨X, 2, none⟩ v2).setCell ⟨X, 3, none⟩ v3) :=
  (((h.setCell (p := ⟨X, 0, none⟩) hX v0).setCell (p := ⟨X, 1, none⟩) hX v1).setCell (p := ⟨X, 2, none⟩) hX v2).setCell (p := ⟨X, 3, none⟩) hX v3
/-- the stream's row is no block of what goes on -/
def StrPost (Q : Kq) (w : World) (F : Nat) (how : Nat) (s : Lzs × Pm En) (out : List UInt8) (m : Nat) (G : Nat → Prop) (x : Ending) (w' : World) : Prop :=
  ∃ B c G', x = .returned (.slice B s.2.x.l c) ∧ Sl w' B s.2.x.l (bv (strB s)) ∧ Apt B G' ∧ Kwn Q w' F ⟨how, finS s, out⟩ m G' ∧ Stp w G w' G'
theorem Kst.fin {m' : Nat} {e : Ending} (h : Kst Q K w Ge A c F k m Ao co) (hG : ∀ i, G i ↔ Kow Q K Ge (tb A k.s.1.out.length c) (tb Ao k.out.length co) i)
    (he : k.s.1.ended = false) (h0 : 0 < k.s.2.x.l) (hp : CEndPost K w Ge A c k.s m' e w') : StrPost Q w F k.how k.s k.out m' G e w' := by
  obtain ⟨B, cc, rfl, hS, hn, hle, hc, hO⟩ := hp
  have hc : Cw K w' none A c (finS k.s).1 m' (finS k.s).2 := by
    have e : ({ k.s.1 with ended := false } : Lzs) = k.s.1 := by rw [← he]
    rw [e] at hc
    exact hc
  have hO' : Only (K.all Ge (tb A k.s.1.out.length c)) w w' := hO.mono fun i hi => .inl hi
  obtain ⟨hk, hst⟩ := h.turn (s' := finS k.s) hG rfl rfl hc (by
    rintro i ((e | e | e | e) | e)
    · exact .inl (.inl (.inl e))
    · exact (nomatch e)
    · exact .inl (.inl (.inr (.inr (.inl e))))
    · exact .inl (.inl (.inr (.inr (.inr e))))
    · exact .inl (.inr e)) hO'
  refine ⟨B, cc, _, rfl, hS, ?_, ⟨K, none, A, c, Ao, co, hk, fun i => Iff.rfl⟩, hst⟩
  intro q o e hG'
  subst e
  have hol := hst.nw q hG'
  rcases hn q rfl with e | e
  · rcases hG' with ((e2 | e2 | e2 | e2) | e2) | e2 | e2
    · exact (h.cw.ap.eo q e).2.2 e2
    · exact (nomatch e2)
    · exact (h.cw.ap.eo q e).1 e2
    · exact (h.cw.ap.eo q e).2.1 e2
    · exact (h.cw.ap.ta q e2).2.2.2 e
    · subst e2
      exact h.kap (.inl (.inr (.inl e)))
    · exact (h.oap q e2).1 (.inl (.inr (.inl e)))
  · obtain ⟨o1, o2, o3, o4, o5⟩ := h.cw.old
    have hlt := h.blk.lt
    rcases hG' with ((e2 | e2 | e2 | e2) | e2) | e2 | e2
    · omega
    · exact (nomatch e2)
    · have e2 : q = K.g := e2
      omega
    · have e2 : q = K.lb := e2
      omega
    · have := o5 q e2
      omega
    · omega
    · have := own_old h.own e2
      omega
end
end Go.Proofs.YtoencondpbkomaaGreat

/-
  The reference's copy at a distance.
-/
namespace Go.Proofs.YtoencondpbkomaaGreat
open Go.RowKit

theorem u8_ne {x y : UInt8} (h : ¬ x = y) : ((x.toNat : Int) == (y.toNat : Int)) = false := by
  have : x.toNat ≠ y.toNat := fun e => h (UInt8.toNat_inj.1 e)
  simp; omega
/-- a loop that counts bytes that are the same -/
structure SameTo (b : List UInt8) (o i j : Nat) : Prop where
  same : ∀ k, k < j → b.getD (i + k) 0 = b.getD (i + k - o) 0
theorem SameTo.zero (b : List UInt8) (o i : Nat) : SameTo b o i 0 := ⟨fun k hk => absurd hk (Nat.not_lt_zero k)⟩
theorem SameTo.succ {b : List UInt8} {o i j : Nat} (h : SameTo b o i j) (he : b.getD (i + j) 0 = b.getD (i + j - o) 0) : SameTo b o i (j + 1) :=
  ⟨fun k hk => by
    by_cases hkj : k = j
    · subst hkj
      exact he
    · exact h.same k (by omega)⟩
theorem SameTo.full {b : List UInt8} {o i j f : Nat} (h : SameTo b o i j) (hj : j = f) : eqN b o f i = j := eqN_is (by omega) h.same (fun h => absurd h (by omega))
theorem SameTo.stop {b : List UInt8} {o i j f : Nat} (h : SameTo b o i j) (hj : j < f) (hs : ¬ b.getD (i + j) 0 = b.getD (i + j - o) 0) : eqN b o f i = j := eqN_is (by omega) h.same (fun _ => hs)

set_option maxRecDepth 100000 in
set_option maxHeartbeats 2000000 in
theorem rlong_any {A : Option Addr} {n c i e d dict : Nat} {bs : List UInt8} {w : World} (hS : Sl w A n (bv bs)) (hn : n ≤ 1000000000) (he : e ≤ n) (hi : i ≤ e) (hdd : dict ≤ 9223372036854775807) (hd : d ≤ 4294967295) :
    Calls Tryz.prog 35 #[.slice A n c, .int .i64 (i : Int), .int .i64 (e : Int), .int .i64 (d : Int), .int .i64 (dict : Int)] w fun x w' => x = .returned (.int .i64 (cpN bs dict e i d : Int)) ∧ ∃ k, w.drewN k = w' := by
  have hl : bs.length = n := by rw [← bv_length]; exact hS.1
  have HS := Lib.hid hS
  have HL := Lib.hid hl
  have h0 : ¬ (d : Int) < 0 := by omega
  clear hS hl
  by_cases h1 : d < i
  · by_cases h2 : d < dict
    · have g1 : ¬ (i : Int) ≤ (d : Int) := by omega
      have g2 : ¬ (dict : Int) ≤ (d : Int) := by omega
      obtain ⟨f, hf⟩ : ∃ f, f = min 273 (e - i) := ⟨_, rfl⟩
      have hr : cpN bs dict e i d = eqN bs (d + 1) f i := by unfold cpN; rw [if_pos ⟨h1, h2⟩, hf]
      rw [hr]
      obtain ⟨r, hrr⟩ : ∃ r, r = eqN bs (d + 1) f i := ⟨_, rfl⟩
      rw [← hrr]
      have HH := Lib.hid (show n ≤ 1000000000 ∧ e ≤ n ∧ i ≤ e ∧ d < i ∧ f = min 273 (e - i) from ⟨hn, he, hi, h1, hf⟩)
      have HR := Lib.hid hrr
      clear hn he hi hdd hd h1 h2 hf hr hrr
      go_enter Tryz.func35, Tryz.ntmps35
      go_wp2_with fail
      clear h0 g1 g2
      go_loopw [11] (fun v wr => ∃ j k : Nat, j ≤ f ∧ v = .int .i64 (j : Int) ∧ SameTo bs (d + 1) i j ∧ wr = w.drewN k) (fun v _ => f - (intOf v).toNat)
      case atStart => exact ⟨0, 0, Nat.zero_le _, rfl, SameTo.zero _ _ _, rfl⟩
      case round =>
        obtain ⟨j, k, hj, rfl, hsm, rfl⟩ := hrel
        obtain ⟨hn, he, hi, hdi, hf⟩ := HH.out
        have HSM := Lib.hid hsm
        have HJ := Lib.hid hj
        by_cases h3 : j < 273
        · have i3 : (j : Int) < 273 := by omega
          have e1 : IntKind.i64.wrap ((i : Int) + (j : Int)) = ((i + j : Nat) : Int) := by rw [IntWalk.i64_in _ (by omega)]; omega
          by_cases h4 : i + j < e
          · have i4 : ((i + j : Nat) : Int) < (e : Int) := by omega
            have hlt : j < f := by omega
            obtain ⟨ba, oa, rfl, hba, hca⟩ := HS.out.2 (by omega)
            obtain ⟨q, hq⟩ : ∃ q, q = i + j - (d + 1) := ⟨_, rfl⟩
            have c1 : w.cell? ⟨ba, oa + (i + j), none⟩ = some (.int .u8 ((bs.getD (i + j) 0).toNat : Int)) := by rw [hca (i + j) (by omega), bv_get bs _ (by have := HL.out; omega)]
            have c2 : w.cell? ⟨ba, oa + q, none⟩ = some (.int .u8 ((bs.getD q 0).toNat : Int)) := by rw [hca q (by omega), bv_get bs _ (by have := HL.out; omega)]
            have e2 : IntKind.i64.wrap (((i + j : Nat) : Int) - 1) = ((i + j : Nat) : Int) - 1 := IntWalk.i64_in _ (by omega)
            have e3 : IntKind.i64.wrap (((i + j : Nat) : Int) - 1 - (d : Int)) = (q : Int) := by rw [IntWalk.i64_in _ (by omega)]; omega
            have b1 : (0 : Int) ≤ ((i + j : Nat) : Int) := by omega
            have b2 : ((i + j : Nat) : Int) < (n : Int) := by omega
            have b3 : (0 : Int) ≤ (q : Int) := by omega
            have b4 : (q : Int) < (n : Int) := by omega
            have HLT := Lib.hid (show j < f ∧ q = i + j - (d + 1) from ⟨hlt, hq⟩)
            by_cases hxy : bs.getD (i + j) 0 = bs.getD q 0
            · have hnext := hsm.succ (by rw [← hq]; exact hxy)
              have HNX := Lib.hid hnext
              rw [← hxy] at c2
              have e4 : IntKind.i64.wrap ((j : Int) + 1) = (j : Int) + 1 := IntWalk.i64_in _ (by omega)
              generalize bs.getD (i + j) 0 = x at *
              generalize i + j = p at *
              clear hca hxy hnext hsm hj hn he hi hdi hf h3 h4 hlt hq
              go_wp2_with fail
              go_quiet (fail)
              go_wp2_with fail
              go_roundw
              case rel => exact ⟨j + 1, k + nq, by have := HLT.out; omega, by go_num, HNX.out, rfl⟩
              case measure => have := HLT.out; simp [intOf]; omega
            · have hst := hsm.stop hlt (by rw [← hq]; exact hxy)
              have hres : r = j := HR.out.trans hst
              have hne := u8_ne hxy
              generalize bs.getD (i + j) 0 = x at *
              generalize bs.getD q 0 = y at *
              generalize i + j = p at *
              have HRES := Lib.hid hres
              clear hca hxy hst hsm hj hn he hi hdi hf h3 h4 hlt hq hres
              go_wp2_with fail
              go_quiet (fail)
              go_wp2_with fail
              go_ret
              exact ⟨ret_int (by rw [HRES.out]), k + nq, by first | rfl | exact World.drewN_drewN.symm | simp⟩
          · have i4 : ¬ ((i + j : Nat) : Int) < (e : Int) := by omega
            have hres : r = j := HR.out.trans (hsm.full (by omega))
            have HRES := Lib.hid hres
            generalize i + j = p at *
            have i5 : decide (p < e) = false := decide_eq_false h4
            clear hsm hj hn he hi hdi hf h3 h4 hres
            go_wp2_with fail
            go_quiet (fail)
            go_wp2_with fail
            go_ret
            exact ⟨ret_int (by rw [HRES.out]), k + nq, by first | rfl | exact World.drewN_drewN.symm | simp⟩
        · have i3 : ¬ (j : Int) < 273 := by omega
          have hres : r = j := HR.out.trans (hsm.full (by omega))
          have HRES := Lib.hid hres
          have i5 : decide ((j : Int) < 273) = false := decide_eq_false i3
          clear hsm hj hn he hi hdi hf h3 hres
          go_wp2_with fail
          go_quiet (fail)
          go_wp2_with fail
          go_ret
          exact ⟨ret_int (by rw [HRES.out]), k + nq, by first | rfl | exact World.drewN_drewN.symm | simp⟩
    · have hr : cpN bs dict e i d = 0 := by unfold cpN; rw [if_neg (fun h => h2 h.2)]
      rw [hr]
      have g1 : ¬ (i : Int) ≤ (d : Int) := by omega
      have g2 : (dict : Int) ≤ (d : Int) := by omega
      clear hn he hi hdd hd h1 h2 hr
      go_enter Tryz.func35, Tryz.ntmps35
      go_wp2_with fail
      go_ret
      exact ⟨rfl, 0, rfl⟩
  · have hr : cpN bs dict e i d = 0 := by unfold cpN; rw [if_neg (fun h => h1 h.1)]
    rw [hr]
    have g1 : (i : Int) ≤ (d : Int) := by omega
    clear hn he hi hdd hd h1 hr
    go_enter Tryz.func35, Tryz.ntmps35
    go_wp2_with fail
    go_ret
    exact ⟨rfl, 0, rfl⟩
end Go.Proofs.YtoencondpbkomaaGreat

/-
  Lists of places, as numbers: the last place of a list, and the longest copy that is found by them.
-/
namespace Go.Proofs.YtoencondpbkomaaGreat
open Go.RowKit

theorem pi64_or (a b : Nat) (ha : a < 9223372036854775808) (hb : b < 9223372036854775808) : bits .or .i64 (a : Int) (b : Int) = ((a ||| b : Nat) : Int) := by
  have hx : a ||| b < 2 ^ 63 := Nat.or_lt_two_pow (by omega) (by omega)
  show IntKind.i64.wrap ((BitVec.ofInt 64 (a : Int) ||| BitVec.ofInt 64 (b : Int)).toNat : Int) = _
  rw [BitVec.toNat_or, ofInt_u64 a (by omega), ofInt_u64 b (by omega), IntKind.wrap_i64]
  omega
theorem pi64_and (a b : Nat) (ha : a < 9223372036854775808) (hb : b < 9223372036854775808) : bits .and .i64 (a : Int) (b : Int) = ((a &&& b : Nat) : Int) := by
  have hx : a &&& b < 2 ^ 63 := Nat.and_lt_two_pow _ (by omega)
  show IntKind.i64.wrap ((BitVec.ofInt 64 (a : Int) &&& BitVec.ofInt 64 (b : Int)).toNat : Int) = _
  rw [BitVec.toNat_and, ofInt_u64 a (by omega), ofInt_u64 b (by omega), IntKind.wrap_i64]
  omega
/-- two bytes -/
def twoP (b : List UInt8) (p : Nat) : Nat := (b.getD p 0).toNat * 256 ||| (b.getD (p + 1) 0).toNat
theorem twoP_lt (b : List UInt8) (p : Nat) : twoP b p < 65536 := by
  have h1 := (b.getD p 0).toNat_lt
  have h2 := (b.getD (p + 1) 0).toNat_lt
  exact Nat.or_lt_two_pow (n := 16) (by omega) (by omega)
/-- which list -/
def hashP (b : List UInt8) (sz p : Nat) : Nat := twoP b p &&& (sz - 1)
theorem hash_lt {b : List UInt8} {sz p : Nat} (h : 1 ≤ sz) : hashP b sz p < sz := by
  have : hashP b sz p ≤ sz - 1 := Nat.and_le_right
  omega
theorem hash_same {b : List UInt8} {sz p q : Nat} (h0 : b.getD p 0 = b.getD q 0) (h1 : b.getD (p + 1) 0 = b.getD (q + 1) 0) : hashP b sz p = hashP b sz q := by
  unfold hashP twoP
  rw [h0, h1]
/-- the last place below n of a list, and 1; 0 if there is none -/
def lastN (h : Nat → Nat) (v : Nat) : Nat → Nat
  | 0 => 0
  | p + 1 => if h p = v then p + 1 else lastN h v p
theorem lastN_le (h : Nat → Nat) (v : Nat) : ∀ n, lastN h v n ≤ n
  | 0 => Nat.le_refl _
  | p + 1 => by
    have := lastN_le h v p
    unfold lastN
    split <;> omega
theorem lastN_none {h : Nat → Nat} {v : Nat} : ∀ {n}, lastN h v n = 0 → ∀ p, p < n → h p ≠ v
  | 0, _, p, hp => absurd hp (Nat.not_lt_zero p)
  | n + 1, h0, p, hp => by
    unfold lastN at h0
    split at h0
    · omega
    · rename_i hn
      by_cases e : p = n
      · subst e; exact hn
      · exact lastN_none h0 p (by omega)
theorem lastN_some {h : Nat → Nat} {v q : Nat} : ∀ {n}, lastN h v n = q + 1 → q < n ∧ h q = v ∧ ∀ p, q < p → p < n → h p ≠ v
  | 0, h0 => by unfold lastN at h0; omega
  | n + 1, h0 => by
    unfold lastN at h0
    split at h0
    · rename_i hn
      obtain rfl : q = n := by omega
      exact ⟨by omega, hn, fun p h1 h2 => by omega⟩
    · rename_i hn
      obtain ⟨h1, h2, h3⟩ := lastN_some h0
      exact ⟨by omega, h2, fun p h4 h5 => by
        by_cases e : p = n
        · subst e; exact hn
        · exact h3 p h4 (by omega)⟩

/-- the longest copy of the first n distances, if it is worth it -/
def wor (g : Nat → Nat) (l0 n : Nat) : Nat × Nat := if l0 ≤ (best g n).2 then best g n else (0, 0)
def leastOf (l0 : Nat) (x : Nat × Nat) : Nat := if x.2 = 0 then l0 else x.2 + 1
theorem wor_zero (g : Nat → Nat) (l0 : Nat) : wor g l0 0 = (0, 0) := by
  unfold wor
  show (if l0 ≤ 0 then ((0, 0) : Nat × Nat) else (0, 0)) = (0, 0)
  split <;> rfl
theorem wor_skip {g : Nat → Nat} {l0 n : Nat} (h1 : 1 ≤ l0) (h : g n < leastOf l0 (wor g l0 n)) : wor g l0 (n + 1) = wor g l0 n := by
  unfold leastOf wor at h
  by_cases hb : l0 ≤ (best g n).2
  · rw [if_pos hb, if_neg (by omega)] at h
    have e : best g (n + 1) = best g n := if_neg (by omega)
    unfold wor
    rw [e]
  · rw [if_neg hb, if_pos rfl] at h
    unfold wor
    rw [if_neg hb]
    have e : (best g (n + 1)).2 < l0 := by
      show (if (best g n).2 < g n then (n, g n) else best g n).2 < l0
      split
      · exact h
      · omega
    rw [if_neg (by omega)]
theorem wor_take {g : Nat → Nat} {l0 n : Nat} (h1 : 1 ≤ l0) (h : leastOf l0 (wor g l0 n) ≤ g n) : wor g l0 (n + 1) = (n, g n) := by
  have hlt : (best g n).2 < g n ∧ l0 ≤ g n := by
    unfold leastOf wor at h
    by_cases hb : l0 ≤ (best g n).2
    · rw [if_pos hb, if_neg (by omega)] at h
      omega
    · rw [if_neg hb, if_pos rfl] at h
      omega
  have e : best g (n + 1) = (n, g n) := if_pos hlt.1
  unfold wor
  rw [e, if_pos hlt.2]
theorem wor_skips {g : Nat → Nat} {l0 n : Nat} (h1 : 1 ≤ l0) : ∀ k, (∀ d, n ≤ d → d < n + k → g d < leastOf l0 (wor g l0 n)) → wor g l0 (n + k) = wor g l0 n
  | 0, _ => rfl
  | k + 1, h => by
    have ih := wor_skips h1 k (fun d h2 h3 => h d h2 (by omega))
    have := wor_skip (g := g) (l0 := l0) (n := n + k) h1 (by rw [ih]; exact h (n + k) (by omega) (by omega))
    rw [show n + (k + 1) = n + k + 1 by omega, this, ih]
theorem wor_to {g : Nat → Nat} {l0 n N : Nat} (h1 : 1 ≤ l0) (hn : n ≤ N) (h : ∀ d, n ≤ d → d < N → g d < leastOf l0 (wor g l0 n)) : wor g l0 N = wor g l0 n := by
  have := wor_skips (g := g) (l0 := l0) (n := n) h1 (N - n) (fun d h2 h3 => h d h2 (by omega))
  rwa [show n + (N - n) = N by omega] at this
theorem least_ge {l0 : Nat} {x : Nat × Nat} (h : 2 ≤ l0) (hx : x.2 = 0 ∨ l0 ≤ x.2) : 2 ≤ leastOf l0 x := by
  unfold leastOf
  split <;> omega
theorem wor_or (g : Nat → Nat) (l0 n : Nat) : wor g l0 n = (0, 0) ∨ (l0 ≤ (wor g l0 n).2) := by
  unfold wor
  split
  · rename_i h; exact .inr h
  · exact .inl rfl
/-- bytes that begin otherwise are no copy -/
theorem cp_short {b : List UInt8} {dict e i d : Nat} (h2 : 2 ≤ cpN b dict e i d) : d < i ∧ d < dict ∧ b.getD i 0 = b.getD (i - 1 - d) 0 ∧ b.getD (i + 1) 0 = b.getD (i - 1 - d + 1) 0 := by
  unfold cpN at h2
  split at h2
  · rename_i h
    have h0 := eqN_same b (d + 1) (min 273 (e - i)) i 0 (by omega)
    have h1 := eqN_same b (d + 1) (min 273 (e - i)) i 1 (by omega)
    rw [show i + 0 = i by omega] at h0
    refine ⟨h.1, h.2, ?_, ?_⟩
    · rw [h0]; exact congrArg (fun k => b.getD k 0) (show i - (d + 1) = i - 1 - d by omega)
    · rw [h1]; exact congrArg (fun k => b.getD k 0) (show i + 1 - (d + 1) = i - 1 - d + 1 by omega)
  · omega
/-- a copy of so many bytes has the last of them -/
theorem cp_last {b : List UInt8} {dict e i d l : Nat} (h1 : 1 ≤ l) (h : l ≤ cpN b dict e i d) : b.getD (i + l - 1) 0 = b.getD (i - 1 - d + l - 1) 0 := by
  unfold cpN at h
  split at h
  · rename_i hd
    have h0 := eqN_same b (d + 1) (min 273 (e - i)) i (l - 1) (by omega)
    rw [show i + (l - 1) = i + l - 1 by omega] at h0
    rw [h0]; exact congrArg (fun k => b.getD k 0) (show i + l - 1 - (d + 1) = i - 1 - d + l - 1 by omega)
  · omega
end Go.Proofs.YtoencondpbkomaaGreat

/-
  The program's finder: what it reads: how many bytes a copy may have, a copy, the elder distances' longest one.
-/
namespace Go.Proofs.YtoencondpbkomaaGreat
open Go.RowKit

theorem min2_int {P : Program} (ts : Array TypeId) (t : TypeId) (x y k : Int) (hk : k = min x y) : ∀ w, (Builtin.min_ ts t #[.int .i64 x, .int .i64 y]).run P w = .ok (.int .i64 k) w := by
  intro w
  subst hk
  by_cases h : x ≤ y
  · rw [Int.min_eq_left h]
    simp [Builtin.min_, Builtin.min2]; omega
  · rw [Int.min_eq_right (by omega)]
    simp [Builtin.min_, Builtin.min2]; omega
theorem max2_int {P : Program} (ts : Array TypeId) (t : TypeId) (x y k : Int) (hk : k = max x y) : ∀ w, (Builtin.max_ ts t #[.int .i64 x, .int .i64 y]).run P w = .ok (.int .i64 k) w := by
  intro w
  subst hk
  by_cases h : x ≤ y
  · rw [Int.max_eq_right h]
    simp [Builtin.max_, Builtin.max2]; omega
  · rw [Int.max_eq_left (by omega)]
    simp [Builtin.max_, Builtin.max2]; omega
/-- the finder's cells -/
def fCells (A : Option Addr) (n c dict : Nat) (s : Ps) (lv av : Value) : Array Value :=
  #[.slice A n c, .int .i64 (s.i : Int), .int .i64 (dict : Int), .int .u32 (s.r0 : Int), .int .u32 (s.r1 : Int), .int .u32 (s.r2 : Int), .int .u32 (s.r3 : Int), .slice A n c, lv, av]
/-- the finder as it is read -/
structure Fq (w : World) (g : Nat) (A : Option Addr) (n c dict : Nat) (b : List UInt8) (s : Ps) (lv av : Value) : Prop where
  f : Blk w g 120 (fCells A n c dict s lv av)
  sl : Sl w A n (bv b)
  n1 : n ≤ 1000000000
  i1 : s.i ≤ n
  d1 : 1 ≤ dict
  d2 : dict ≤ 9223372036854775807
  lit : s.Lit
section
variable {w : World} {g : Nat} {A : Option Addr} {n c dict : Nat} {b : List UInt8} {s : Ps} {lv av : Value}
theorem Fq.drewN (h : Fq w g A n c dict b s lv av) (k : Nat) : Fq (w.drewN k) g A n c dict b s lv av := ⟨h.f.drewN k, h.sl.drewN k, h.n1, h.i1, h.d1, h.d2, h.lit⟩
theorem Fq.c0 (h : Fq w g A n c dict b s lv av) : w.cell? ⟨g, 0, none⟩ = some (.slice A n c) := h.f.cell 0
theorem Fq.c1 (h : Fq w g A n c dict b s lv av) : w.cell? ⟨g, 1, none⟩ = some (.int .i64 (s.i : Int)) := h.f.cell 1
theorem Fq.c2 (h : Fq w g A n c dict b s lv av) : w.cell? ⟨g, 2, none⟩ = some (.int .i64 (dict : Int)) := h.f.cell 2
theorem Fq.c3 (h : Fq w g A n c dict b s lv av) : w.cell? ⟨g, 3, none⟩ = some (.int .u32 (s.r0 : Int)) := h.f.cell 3
theorem Fq.c4 (h : Fq w g A n c dict b s lv av) : w.cell? ⟨g, 4, none⟩ = some (.int .u32 (s.r1 : Int)) := h.f.cell 4
theorem Fq.c5 (h : Fq w g A n c dict b s lv av) : w.cell? ⟨g, 5, none⟩ = some (.int .u32 (s.r2 : Int)) := h.f.cell 5
theorem Fq.c6 (h : Fq w g A n c dict b s lv av) : w.cell? ⟨g, 6, none⟩ = some (.int .u32 (s.r3 : Int)) := h.f.cell 6
theorem Fq.len (h : Fq w g A n c dict b s lv av) : b.length = n := by rw [← bv_length]; exact h.sl.1

set_option maxRecDepth 100000 in
set_option maxHeartbeats 2000000 in
theorem pmost_any (h : Fq w g A n c dict b s lv av) :
    Calls Tryz.prog 104 #[.pointer (some ⟨g, 0, none⟩)] w fun x w' => x = .returned (.int .i64 ((min 273 (n - s.i) : Nat) : Int)) ∧ ∃ k, w.drewN k = w' := by
  have c0 := h.c0
  have c1 := h.c1
  have e1 : IntKind.i64.wrap ((n : Int) - (s.i : Int)) = (n : Int) - (s.i : Int) := IntWalk.i64_in _ (by have := h.n1; have := h.i1; omega)
  obtain ⟨r, hr⟩ : ∃ r, r = (min 273 (n - s.i) : Nat) := ⟨_, rfl⟩
  have hm := min2_int (P := Tryz.prog) #[3, 3] 3 ((n : Int) - (s.i : Int)) 273 (r : Int) (by have := h.i1; omega)
  rw [← hr]
  clear hr
  generalize s.i = i at *
  clear h
  go_enter Tryz.func104, Tryz.ntmps104
  go_wp2_with fail
  go_quiet (fail)
  go_wp2_with fail
  go_ret
  exact ⟨rfl, nq, rfl⟩

set_option maxRecDepth 100000 in
set_option maxHeartbeats 4000000 in
theorem pcopied_any {d : Nat} (h : Fq w g A n c dict b s lv av) (hd : d < 4294967296) :
    Calls Tryz.prog 80 #[.pointer (some ⟨g, 0, none⟩), .int .i64 (d : Int)] w fun x w' => x = .returned (.int .i64 ((cpN b dict n s.i d : Nat) : Int)) ∧ ∃ k, w.drewN k = w' := by
  have c0 := h.c0
  have c1 := h.c1
  have c2 := h.c2
  have HQ := Lib.hid h
  obtain ⟨i, hi⟩ : ∃ i, i = s.i := ⟨_, rfl⟩
  have HI := Lib.hid hi
  rw [← hi] at c1 ⊢
  by_cases h1 : d < i ∧ d < dict
  · obtain ⟨f, hf⟩ : ∃ f, f = min 273 (n - i) := ⟨_, rfl⟩
    have hr : cpN b dict n i d = eqN b (d + 1) f i := by unfold cpN; rw [if_pos h1, hf]
    rw [hr]
    obtain ⟨r, hrr⟩ : ∃ r, r = eqN b (d + 1) f i := ⟨_, rfl⟩
    rw [← hrr]
    have KM := Lib.hid (fun k => pmost_any (h.drewN k))
    rw [← hi, ← hf] at KM
    have HH := Lib.hid (show n ≤ 1000000000 ∧ i ≤ n ∧ d < i ∧ f = min 273 (n - i) from ⟨h.n1, by rw [hi]; exact h.i1, h1.1, hf⟩)
    have HR := Lib.hid hrr
    obtain ⟨u, hu⟩ : ∃ u, u = min i dict := ⟨_, rfl⟩
    have hm := min2_int (P := Tryz.prog) #[3, 3] 3 (i : Int) (dict : Int) (u : Int) (by omega)
    have g1 : ¬ (u : Int) ≤ (d : Int) := by omega
    have g2 : decide (u ≤ d) = false := decide_eq_false (by omega)
    have g3 : decide ((u : Int) ≤ (d : Int)) = false := decide_eq_false g1
    clear h hd hr hrr h1 hf hi hu
    go_enter Tryz.func80, Tryz.ntmps80
    go_wp2_with fail
    go_quiet (fail)
    clear c2 g1 g2 g3 hm
    go_wp2_with fail
    refine (KM.out nq).mono ?_
    rintro e w1 ⟨rfl, k1, rfl⟩
    clear KM
    go_wp2_with fail
    go_loopw [5] (fun v wr => ∃ j k : Nat, j ≤ f ∧ v = .int .i64 (j : Int) ∧ SameTo b (d + 1) i j ∧ wr = w.drewN k) (fun v _ => f - (intOf v).toNat)
    case atStart => exact ⟨0, nq + k1, Nat.zero_le _, rfl, SameTo.zero _ _ _, by first | rfl | exact World.drewN_drewN.symm | simp⟩
    case round =>
      obtain ⟨j, k, hj, rfl, hsm, rfl⟩ := hrel
      obtain ⟨hn, hi, hdi, hf⟩ := HH.out
      by_cases hlt : j < f
      · have i3 : (j : Int) < (f : Int) := by omega
        obtain ⟨ba, oa, rfl, hba, hca⟩ := HQ.out.sl.2 (by omega)
        have hbl := HQ.out.len
        obtain ⟨q, hq⟩ : ∃ q, q = i + j - (d + 1) := ⟨_, rfl⟩
        have k1' : w.cell? ⟨ba, oa + (i + j), none⟩ = some (.int .u8 ((b.getD (i + j) 0).toNat : Int)) := by rw [hca (i + j) (by omega), bv_get b _ (by omega)]
        have k2' : w.cell? ⟨ba, oa + q, none⟩ = some (.int .u8 ((b.getD q 0).toNat : Int)) := by rw [hca q (by omega), bv_get b _ (by omega)]
        have e1 : IntKind.i64.wrap ((i : Int) + (j : Int)) = ((i + j : Nat) : Int) := by rw [IntWalk.i64_in _ (by omega)]; omega
        have e2 : IntKind.i64.wrap (((i + j : Nat) : Int) - 1) = ((i + j : Nat) : Int) - 1 := IntWalk.i64_in _ (by omega)
        have e3 : IntKind.i64.wrap (((i + j : Nat) : Int) - 1 - (d : Int)) = (q : Int) := by rw [IntWalk.i64_in _ (by omega)]; omega
        have b1 : (0 : Int) ≤ ((i + j : Nat) : Int) := by omega
        have b2 : ((i + j : Nat) : Int) < (n : Int) := by omega
        have b3 : (0 : Int) ≤ (q : Int) := by omega
        have b4 : (q : Int) < (n : Int) := by omega
        have HLT := Lib.hid (show j < f ∧ q = i + j - (d + 1) from ⟨hlt, hq⟩)
        by_cases hxy : b.getD (i + j) 0 = b.getD q 0
        · have hnext := hsm.succ (by rw [← hq]; exact hxy)
          have HNX := Lib.hid hnext
          rw [← hxy] at k2'
          have e4 : IntKind.i64.wrap ((j : Int) + 1) = (j : Int) + 1 := IntWalk.i64_in _ (by omega)
          generalize b.getD (i + j) 0 = x at *
          generalize i + j = p at *
          clear hca hxy hnext hsm hj hn hi hdi hf hlt hq hbl
          go_wp2_with fail
          go_quiet (fail)
          go_wp2_with fail
          go_roundw
          case rel => exact ⟨j + 1, k + nq, by have := HLT.out; omega, by go_num, HNX.out, rfl⟩
          case measure => have := HLT.out; simp [intOf]; omega
        · have hst := hsm.stop hlt (by rw [← hq]; exact hxy)
          have hres : r = j := HR.out.trans hst
          have hne := u8_ne hxy
          generalize b.getD (i + j) 0 = x at *
          generalize b.getD q 0 = y at *
          generalize i + j = p at *
          have HRES := Lib.hid hres
          clear hca hxy hst hsm hj hn hi hdi hf hlt hq hres hbl
          go_wp2_with fail
          go_quiet (fail)
          go_wp2_with fail
          go_ret
          exact ⟨ret_int (by rw [HRES.out]), k + nq, by first | rfl | exact World.drewN_drewN.symm | simp⟩
      · have i3 : ¬ (j : Int) < (f : Int) := by omega
        have i4 : decide (j < f) = false := decide_eq_false hlt
        have i5 : decide ((j : Int) < (f : Int)) = false := decide_eq_false i3
        have hres : r = j := HR.out.trans (hsm.full (by omega))
        have HRES := Lib.hid hres
        clear hsm hj hn hi hdi hf hlt hres
        go_wp2_with fail
        go_quiet (fail)
        go_wp2_with fail
        go_ret
        exact ⟨ret_int (by rw [HRES.out]), k + nq, by first | rfl | exact World.drewN_drewN.symm | simp⟩
  · have hr : cpN b dict n i d = 0 := by unfold cpN; rw [if_neg h1]
    rw [hr]
    obtain ⟨u, hu⟩ : ∃ u, u = min i dict := ⟨_, rfl⟩
    have hm := min2_int (P := Tryz.prog) #[3, 3] 3 (i : Int) (dict : Int) (u : Int) (by omega)
    have g1 : (u : Int) ≤ (d : Int) := by omega
    have g2 : decide (u ≤ d) = true := decide_eq_true (by omega)
    have g3 : decide ((u : Int) ≤ (d : Int)) = true := decide_eq_true g1
    clear h hd h1 hr hi hu
    go_enter Tryz.func80, Tryz.ntmps80
    go_wp2_with fail
    go_quiet (fail)
    go_wp2_with fail
    go_ret
    exact ⟨rfl, nq, rfl⟩
end
end Go.Proofs.YtoencondpbkomaaGreat

/-
  The program's lists of places: what they are in memory; a list, its last place, the one ahead of a place.
-/
namespace Go.Proofs.YtoencondpbkomaaGreat
open Go.RowKit

/-- what is kept by each place -/
def prevs (b : List UInt8) (sz n : Nat) : List Value := (List.range n).map fun p => Value.int .u32 ((lastN (hashP b sz) (hashP b sz p) p : Nat) : Int)
theorem prevs_succ (b : List UInt8) (sz n : Nat) : prevs b sz (n + 1) = prevs b sz n ++ [.int .u32 ((lastN (hashP b sz) (hashP b sz n) n : Nat) : Int)] := by simp [prevs, List.range_succ]
theorem prevs_get (b : List UInt8) (sz n p : Nat) (h : p < n) : (prevs b sz n)[p]? = some (.int .u32 ((lastN (hashP b sz) (hashP b sz p) p : Nat) : Int)) := by simp [prevs, h]
/-- the lists, with the places below cnt -/
structure Md (w : World) (b : List UInt8) (cnt sz ql qa ca : Nat) (cs : Array Value) : Prop where
  lb : Blk w ql 48 cs
  lz : cs.size = sz
  lv : ∀ v, v < sz → cs[v]? = some (.int .u32 ((lastN (hashP b sz) v cnt : Nat) : Int))
  ar : w.ownsRow 0 48 1 (.slice (some ⟨qa, 0, none⟩) cnt ca) cnt (prevs b sz cnt)
  s1 : 1 ≤ sz
  s2 : sz ≤ 65536
  ne : ql ≠ qa
section
variable {w : World} {b : List UInt8} {cnt sz ql qa ca : Nat} {cs : Array Value}
theorem Md.drewN (h : Md w b cnt sz ql qa ca cs) (k : Nat) : Md (w.drewN k) b cnt sz ql qa ca cs := ⟨h.lb, h.lz, h.lv, h.ar, h.s1, h.s2, h.ne⟩
theorem Md.lcell (h : Md w b cnt sz ql qa ca cs) {v : Nat} (hv : v < sz) : w.cell? ⟨ql, v, none⟩ = some (.int .u32 ((lastN (hashP b sz) v cnt : Nat) : Int)) := (h.lb.cell v).trans (h.lv v hv)
theorem Md.acell (h : Md w b cnt sz ql qa ca cs) {p : Nat} (hp : p < cnt) : w.cell? ⟨qa, p, none⟩ = some (.int .u32 ((lastN (hashP b sz) (hashP b sz p) p : Nat) : Int)) := by
  obtain ⟨_, h2⟩ := (own_facts h.ar).1
  obtain ⟨b', o', e, _, hc⟩ := h2 (by omega)
  injection e with e
  injection e with e1 e2
  subst e1 e2
  have := hc p hp
  rw [Nat.zero_add] at this
  rw [this]
  exact prevs_get b sz cnt p hp
end

section
variable {w : World} {g : Nat} {A : Option Addr} {n c : Nat} {b : List UInt8} {sz ql : Nat}
set_option maxRecDepth 100000 in
set_option maxHeartbeats 4000000 in
/-- where the last place of a list is kept -/
theorem plist_any {p : Nat} (c7 : w.cell? ⟨g, 7, none⟩ = some (.slice A n c)) (c8 : w.cell? ⟨g, 8, none⟩ = some (.slice (some ⟨ql, 0, none⟩) sz sz)) (hS : Sl w A n (bv b)) (hn : n ≤ 1000000000) (hp : p + 1 < n) (h1 : 1 ≤ sz) (h2 : sz ≤ 65536) :
    Calls Tryz.prog 116 #[.pointer (some ⟨g, 7, none⟩), .int .i64 (p : Int)] w fun x w' => x = .returned (.pointer (some ⟨ql, hashP b sz p, none⟩)) ∧ ∃ k, w.drewN k = w' := by
  have hl : b.length = n := by rw [← bv_length]; exact hS.1
  obtain ⟨ba, oa, rfl, hba, hca⟩ := hS.2 (by omega)
  have a1 : w.cell? ⟨ba, oa + p, none⟩ = some (.int .u8 ((b.getD p 0).toNat : Int)) := by rw [hca p (by omega), bv_get b _ (by omega)]
  have a2 : w.cell? ⟨ba, oa + (p + 1), none⟩ = some (.int .u8 ((b.getD (p + 1) 0).toNat : Int)) := by rw [hca (p + 1) (by omega), bv_get b _ (by omega)]
  have ht := twoP_lt b p
  have hh := hash_lt (b := b) (p := p) h1
  obtain ⟨t, ht0⟩ : ∃ t, t = twoP b p := ⟨_, rfl⟩
  obtain ⟨u, hu0⟩ : ∃ u, u = hashP b sz p := ⟨_, rfl⟩
  obtain ⟨p1, hp1⟩ : ∃ p1, p1 = p + 1 := ⟨_, rfl⟩
  have ht1 : t = (b.getD p 0).toNat * 256 ||| (b.getD (p + 1) 0).toNat := ht0
  have hu1 : u = t &&& (sz - 1) := by rw [hu0, ht0]; rfl
  rw [← hp1] at a2 ht1
  rw [← hu0] at hh ⊢
  rw [← ht0] at ht
  generalize b.getD p 0 = x at *
  generalize b.getD p1 0 = y at *
  obtain ⟨X, hX⟩ : ∃ X, X = x.toNat * 256 := ⟨_, rfl⟩
  obtain ⟨z1, hz1⟩ : ∃ z1, z1 = sz - 1 := ⟨_, rfl⟩
  rw [← hX] at ht1
  rw [← hz1] at hu1
  have hxx := x.toNat_lt
  have hyy := y.toNat_lt
  have e0 : IntKind.i64.wrap (x.toNat : Int) = (x.toNat : Int) := IntWalk.i64_in _ (by omega)
  have e0' : IntKind.i64.wrap (y.toNat : Int) = (y.toNat : Int) := IntWalk.i64_in _ (by omega)
  have e1 : IntKind.i64.wrap ((x.toNat : Int) * 2 ^ 8) = (X : Int) := by rw [IntWalk.i64_in _ (by omega)]; omega
  have e2 : IntKind.i64.wrap ((x.toNat : Int) * 256) = (X : Int) := by rw [IntWalk.i64_in _ (by omega)]; omega
  have e3 : bits .or .i64 (X : Int) (y.toNat : Int) = (t : Int) := by rw [ht1]; exact pi64_or _ _ (by omega) (by omega)
  have e4 : IntKind.i64.wrap ((p : Int) + 1) = (p1 : Int) := by rw [IntWalk.i64_in _ (by omega)]; omega
  have e5 : IntKind.i64.wrap ((sz : Int) - 1) = (z1 : Int) := by rw [IntWalk.i64_in _ (by omega)]; omega
  have e6 : bits .and .i64 (t : Int) (z1 : Int) = (u : Int) := by rw [hu1]; exact pi64_and _ _ (by omega) (by omega)
  have b1 : (0 : Int) ≤ (p : Int) := by omega
  have b2 : (p : Int) < (n : Int) := by omega
  have b3 : (0 : Int) ≤ (p1 : Int) := by omega
  have b4 : (p1 : Int) < (n : Int) := by omega
  have b5 : (0 : Int) ≤ (u : Int) := by omega
  have b6 : (u : Int) < (sz : Int) := by omega
  clear hS hn hl hba hca hp h1 h2 ht hh ht0 hu0 ht1 hu1 hX hz1 hxx hyy hp1
  go_enter Tryz.func116, Tryz.ntmps116
  go_wp2_with fail
  go_quiet (fail)
  go_wp2_with fail
  have HK := Lib.hid (World.drewN_drewN (w := w) (n := nq))
  go_quiet (fail)
  go_wp2_with fail
  go_ret
  exact ⟨rfl, _, (HK.out nq).symm⟩
end
section
variable {w : World} {g : Nat} {A : Option Addr} {n c cnt : Nat} {b : List UInt8} {sz ql qa ca : Nat} {cs : Array Value}
set_option maxRecDepth 100000 in
set_option maxHeartbeats 4000000 in
/-- the last place of a list -/
theorem plast_any {p : Nat} (c7 : w.cell? ⟨g, 7, none⟩ = some (.slice A n c)) (c8 : w.cell? ⟨g, 8, none⟩ = some (.slice (some ⟨ql, 0, none⟩) sz sz)) (hS : Sl w A n (bv b)) (hn : n ≤ 1000000000) (hp : p + 1 < n) (hcn : cnt ≤ n) (hM : Md w b cnt sz ql qa ca cs) :
    Calls Tryz.prog 106 #[.pointer (some ⟨g, 7, none⟩), .int .i64 (p : Int)] w fun x w' => x = .returned (.int .i64 ((lastN (hashP b sz) (hashP b sz p) cnt : Nat) - 1 : Int)) ∧ ∃ k, w.drewN k = w' := by
  have K := Lib.hid (plist_any c7 c8 hS hn hp hM.s1 hM.s2)
  have hc := hM.lcell (hash_lt (b := b) (p := p) hM.s1)
  have hle := lastN_le (hashP b sz) (hashP b sz p) cnt
  generalize hashP b sz p = u at *
  generalize lastN (hashP b sz) u cnt = l at *
  have e1 : IntKind.i64.wrap (l : Int) = (l : Int) := IntWalk.i64_in _ (by omega)
  have e2 : IntKind.i64.wrap ((l : Int) - 1) = (l : Int) - 1 := IntWalk.i64_in _ (by omega)
  clear c7 c8 hS hn hp hM hle hcn
  go_enter Tryz.func106, Tryz.ntmps106
  go_wp2_with fail
  refine K.out.mono ?_
  rintro e w1 ⟨rfl, k, rfl⟩
  go_wp2_with fail
  go_ret
  exact ⟨rfl, k, rfl⟩
set_option maxRecDepth 100000 in
set_option maxHeartbeats 4000000 in
/-- the place ahead of one in its list -/
theorem pahead_any {p : Nat} (c9 : w.cell? ⟨g, 9, none⟩ = some (.slice (some ⟨qa, 0, none⟩) cnt ca)) (hp : p < cnt) (hcn : cnt ≤ 1000000000) (hM : Md w b cnt sz ql qa ca cs) :
    Calls Tryz.prog 107 #[.pointer (some ⟨g, 7, none⟩), .int .i64 (p : Int)] w fun x w' => x = .returned (.int .i64 ((lastN (hashP b sz) (hashP b sz p) p : Nat) - 1 : Int)) ∧ w = w' := by
  have hc := hM.acell hp
  have hle := lastN_le (hashP b sz) (hashP b sz p) p
  generalize lastN (hashP b sz) (hashP b sz p) p = l at *
  have e1 : IntKind.i64.wrap (l : Int) = (l : Int) := IntWalk.i64_in _ (by omega)
  have e2 : IntKind.i64.wrap ((l : Int) - 1) = (l : Int) - 1 := IntWalk.i64_in _ (by omega)
  have b1 : (0 : Int) ≤ (p : Int) := by omega
  have b2 : (p : Int) < (cnt : Int) := by omega
  clear hp hM hle hcn
  go_enter Tryz.func107, Tryz.ntmps107
  go_wp2_with fail
  go_ret
  exact ⟨rfl, rfl⟩
end
end Go.Proofs.YtoencondpbkomaaGreat

/-
  How many bits a number has: some number up to 32.
-/
namespace Go.Proofs.YtoencondpbkomaaGreat
open Go.RowKit

theorem plen8 {x : Nat} (hx : x < 256) : Lib.len8 (x : Int) = (Lib.bitLen x : Int) := Lib.len8_eq ⟨x, hx⟩
def LenPost (w : World) (e : Ending) (w' : World) : Prop := (∃ k : Nat, k ≤ 32 ∧ e = .returned (.int .i64 (k : Int))) ∧ w = w'
set_option maxRecDepth 100000 in
set_option maxHeartbeats 2000000 in
theorem plen64_any {x : Nat} (hx : x < 4294967296) (w : World) : Calls Tryz.prog 118 #[.int .u64 (x : Int)] w (LenPost w) := by
  have main : ∀ (y n : Nat), y < 256 → n ≤ 24 → ∃ k : Nat, k ≤ 32 ∧ wrap64 ((n : Int) + wrap64 (Lib.len8 (y : Int))) = (k : Int) := fun y n hy hn => by
    have hb := Lib.bitLen_le8 ⟨y, hy⟩
    simp only at hb
    rw [plen8 hy]
    exact ⟨n + Lib.bitLen y, by omega, by unfold wrap64; omega⟩
  have g0 : ¬ (x : Int) ≥ 4294967296 := by omega
  by_cases h2 : x < 65536
  · have g1 : ¬ (x : Int) ≥ 65536 := by omega
    by_cases h1 : x < 256
    · have g2 : ¬ (x : Int) ≥ 256 := by omega
      obtain ⟨k, hk, hm⟩ := main x 0 h1 (by decide)
      have e1 : IntKind.u8.wrap (x : Int) = (x : Int) := by simp [IntKind.wrap, IntKind.bits, IntKind.signed]; omega
      have HM := Lib.hid hm
      have g0 : (0 : Int) ≤ (x : Int) := by omega
      have g3 : (x : Int) ≤ 255 := by omega
      clear hm main hx h1 h2
      go_enter Tryz.func118, Tryz.ntmps118
      go_wp2_with fail
      go_ret
      exact ⟨⟨k, hk, ret_int (by have := HM.out; simpa using this)⟩, rfl⟩
    · have g2 : (x : Int) ≥ 256 := by omega
      obtain ⟨y, hy⟩ : ∃ y, y = x / 256 := ⟨_, rfl⟩
      obtain ⟨k, hk, hm⟩ := main y 8 (by omega) (by decide)
      have e0 : (x : Int) / 256 = (y : Int) := by omega
      have e1 : IntKind.u8.wrap (y : Int) = (y : Int) := by simp [IntKind.wrap, IntKind.bits, IntKind.signed]; omega
      have HM := Lib.hid hm
      have g0 : (0 : Int) ≤ (y : Int) := by omega
      have g3 : (y : Int) ≤ 255 := by omega
      clear hm main hx h1 h2 hy
      go_enter Tryz.func118, Tryz.ntmps118
      go_wp2_with fail
      go_ret
      exact ⟨⟨k, hk, ret_int (by have := HM.out; simpa using this)⟩, rfl⟩
  · have g1 : (x : Int) ≥ 65536 := by omega
    obtain ⟨y, hy⟩ : ∃ y, y = x / 65536 := ⟨_, rfl⟩
    have e0 : (x : Int) / 65536 = (y : Int) := by omega
    by_cases h1 : y < 256
    · have g2 : ¬ (y : Int) ≥ 256 := by omega
      obtain ⟨k, hk, hm⟩ := main y 16 h1 (by decide)
      have e1 : IntKind.u8.wrap (y : Int) = (y : Int) := by simp [IntKind.wrap, IntKind.bits, IntKind.signed]; omega
      have HM := Lib.hid hm
      have g0 : (0 : Int) ≤ (y : Int) := by omega
      have g3 : (y : Int) ≤ 255 := by omega
      clear hm main hx h1 h2 hy
      go_enter Tryz.func118, Tryz.ntmps118
      go_wp2_with fail
      go_ret
      exact ⟨⟨k, hk, ret_int (by have := HM.out; simpa using this)⟩, rfl⟩
    · have g2 : (y : Int) ≥ 256 := by omega
      obtain ⟨u, hu⟩ : ∃ u, u = y / 256 := ⟨_, rfl⟩
      have e2 : (y : Int) / 256 = (u : Int) := by omega
      obtain ⟨k, hk, hm⟩ := main u 24 (by omega) (by decide)
      have e1 : IntKind.u8.wrap (u : Int) = (u : Int) := by simp [IntKind.wrap, IntKind.bits, IntKind.signed]; omega
      have HM := Lib.hid hm
      have g0 : (0 : Int) ≤ (u : Int) := by omega
      have g3 : (u : Int) ≤ 255 := by omega
      clear hm main hx h1 h2 hy hu
      go_enter Tryz.func118, Tryz.ntmps118
      go_wp2_with fail
      go_ret
      exact ⟨⟨k, hk, ret_int (by have := HM.out; simpa using this)⟩, rfl⟩
set_option maxRecDepth 100000 in
set_option maxHeartbeats 2000000 in
theorem plen_any {x : Nat} (hx : x < 4294967296) (w : World) : Calls Tryz.prog 115 #[.int .u64 (x : Int)] w (LenPost w) := by
  have K := Lib.hid (plen64_any hx w)
  have e1 : IntKind.u64.wrap (x : Int) = (x : Int) := u64_in _ (by omega)
  clear hx
  go_enter Tryz.func115, Tryz.ntmps115
  go_wp2_with fail
  refine K.out.mono ?_
  rintro e w1 ⟨⟨k, hk, rfl⟩, rfl⟩
  go_wp2_with fail
  go_ret
  exact ⟨⟨k, hk, rfl⟩, rfl⟩
end Go.Proofs.YtoencondpbkomaaGreat
