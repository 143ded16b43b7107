/-
  CkTell, CkPlain, CkStep, PsLong, PsWor: put together.
-/
import Derived.Test.YtjganponepafpaaQ19
import Derived.Test.YtjganponepafpaaQ04
import Derived.Test.YtjganponepafpaaQ06
import Derived.Test.YtjganponepafpaaQ01
set_option linter.unusedVariables false
set_option linter.unusedSimpArgs false
/-
  The coder of LZMA2: what it puts of a chunk.
-/
namespace Go.Proofs.Ytjganponepafpaa
open Go.RowKit

theorem cnt_val {n N : Nat} (hN : N = n - 1) (h : n ≤ 65536) : (#[Value.int .u8 ((N : Int) / 256 % 256), Value.int .u8 ((N : Int) % 256)] : Array Value) = (bv (cntB n)).toArray := by
  subst hN
  have h1 : ((UInt8.ofNat ((n - 1) / 256)).toNat : Int) = ((n - 1 : Nat) : Int) / 256 % 256 := by rw [UInt8.toNat_ofNat']; omega
  have h2 : ((UInt8.ofNat ((n - 1) % 256)).toNat : Int) = ((n - 1 : Nat) : Int) % 256 := by rw [UInt8.toNat_ofNat']; omega
  show _ = #[Value.int .u8 ((UInt8.ofNat ((n - 1) / 256)).toNat : Int), Value.int .u8 ((UInt8.ofNat ((n - 1) % 256)).toNat : Int)]
  rw [h1, h2]
theorem sl_b1 (w : World) (x : UInt8) : Sl (w.alloc (.cells #[.int .u8 (x.toNat : Int)] 5)) (some ⟨w.heap.size, 0, none⟩) 1 (bv [x]) := sl_lit w 5 (bv [x]).toArray (by show 1 ≤ 1000000000; decide)

section
variable {Q : Kq} {w : World} {F m : Nat} {k : Ckn} {G : Nat → Prop}
/-- what was put is there, and the cell leads to it -/
theorem Kst.puts {K : Koc} {Ge : Option Nat} {A : Option Addr} {c : Nat} {Ao : Option Addr} {co : Nat} {w1 w3 : World} {A2 : Option Addr} {c2 n : Nat} {xs : List UInt8} (h : Kst Q K w Ge A c F k m Ao co)
    (hG : ∀ i, G i ↔ Kow Q K Ge (tb A k.s.1.out.length c) (tb Ao k.out.length co) i) (hl : xs.length = n) (h1 : Only (fun _ => False) w w1)
    (ho : w3.ownsRow 0 5 1 (.slice A2 (k.out.length + n) c2) (k.out.length + n) (bv k.out ++ bv xs)) (hg : w1.grownBy w3 (Value.slice Ao k.out.length co).ownBlock)
    (hq : (Value.slice A2 (k.out.length + n) c2).ownBlock = (Value.slice Ao k.out.length co).ownBlock ∨ (Value.slice A2 (k.out.length + n) c2).ownBlock = some w1.heap.size) :
    (w3.cell? ⟨Q.kg, 8, none⟩ = some (.slice Ao k.out.length co) ∧ w3.frozen? ⟨Q.kg, 8, none⟩ = false) ∧
    OwnPost (fun w G => Kwn Q w F ⟨k.how, k.s, k.out ++ xs⟩ m G) w G (.tuple #[]) (.returned (.tuple #[])) (w3.setCell ⟨Q.kg, 8, none⟩ (.slice A2 (k.out.length + n) c2)) := by
  subst hl
  obtain ⟨p1, p2, p3, p4⟩ := h.put h1 ho hg hq
  exact ⟨⟨p2.cell 8, p2.free 8⟩, rfl, _, ⟨K, Ge, A, c, A2, c2, p1, fun i => Iff.rfl⟩, fun i hi => (p3 i hi).imp (hG i).2 id, p4.mono fun i hi => (hG i).2 hi⟩
set_option maxRecDepth 100000 in
set_option maxHeartbeats 4000000 in
theorem kcount_any {n : Nat} (h : Kwn Q w F k m G) (hn : 1 ≤ n) (hn2 : n ≤ 65536) (ho : k.out.length ≤ 100000000) :
    Calls Try.prog 43 #[.pointer (some ⟨Q.kg, 0, none⟩), .int .i64 (n : Int)] w (OwnPost (fun w G => Kwn Q w F ⟨k.how, k.s, k.out ++ cntB n⟩ m G) w G (.tuple #[])) := by
  obtain ⟨K, Ge, A, c, Ao, co, hs, hG⟩ := h
  obtain ⟨i, hi, hz0, hz1, hz2⟩ := info_parts info_u8
  obtain ⟨N, hN⟩ : ∃ N, N = n - 1 := ⟨_, rfl⟩
  have e1 : IntKind.i64.wrap ((n : Int) - 1) = (N : Int) := by rw [IntWalk.i64_in _ (by omega)]; omega
  have c8 : w.cell? ⟨Q.kg, 8, none⟩ = some (.slice Ao k.out.length co) := hs.blk.cell 8
  have HS := Lib.hid hs
  have HG := Lib.hid hG
  have HCV := Lib.hid (cnt_val hN hn2)
  clear hs hG hn hn2 hN
  go_enter Try.func43, Try.ntmps43
  go_wp2_with (first
    | (at_builtin; refine wpList_appO _ rfl _ _ 22 rfl 0 5 i _ 1 Try.underlying22 hi hz0 hz1 hz2 rfl _ k.out.length (bv k.out) rfl (HS.out.own.alloc _) _ 2 2 (bv (cntB n)) rfl (by rw [HCV.out]; exact sl_lit w 5 (bv (cntB n)).toArray (by show 2 ≤ 1000000000; decide)) (bv_one _) (by omega) (by decide) (Nat.zero_le _) ?_)
    | fail)
  intro A2 c2 w3 ho3 hg3 hv3
  obtain ⟨⟨d8, f8⟩, hp⟩ := HS.out.puts HG.out (xs := cntB n) (n := 2) rfl ((Only.refl _ w).alloc _) ho3 hg3 (by simpa using hv3)
  have HP := Lib.hid hp
  clear ho3 hg3 hv3 hp c8
  go_wp2_with fail
  first | go_end0 | refine bodyPost_ret (results_none rfl _ _ _) rfl ?_
  exact HP.out
end
end Go.Proofs.Ytjganponepafpaa

/-
  The coder of LZMA2: a plain chunk.
-/
namespace Go.Proofs.Ytjganponepafpaa
open Go.RowKit

/-- from G in w to G' in w' : what is owned then was so, or is new; nothing else has turned -/
structure Stp (w : World) (G : Nat → Prop) (w' : World) (G' : Nat → Prop) : Prop where
  nw : ∀ i, G' i → G i ∨ w.heap.size ≤ i
  on : Only G w w'
theorem Stp.refl (w : World) (G : Nat → Prop) : Stp w G w G := ⟨fun _ h => .inl h, Only.refl _ _⟩
theorem Stp.trans {w w1 w2 : World} {G G1 G2 : Nat → Prop} (h : Stp w G w1 G1) (k : Stp w1 G1 w2 G2) : Stp w G w2 G2 :=
  ⟨fun i hi => by
    rcases k.nw i hi with e | e
    · exact h.nw i e
    · exact .inr (Nat.le_trans h.on.size e), h.on.trans' k.on h.nw⟩
theorem Stp.quiet {w w1 w2 : World} {G G1 : Nat → Prop} (h : Stp w G w1 G1) (k : Only (fun _ => False) w1 w2) : Stp w G w2 G1 := ⟨h.nw, h.on.trans (k.mono fun _ h => h.elim)⟩
/-- bytes of others stay -/
def Apt (B : Option Addr) (G : Nat → Prop) : Prop := ∀ q o, B = some ⟨q, o, none⟩ → ¬ G q
theorem Stp.sl {w w1 : World} {G G1 : Nat → Prop} {B : Option Addr} {n : Nat} {xs : List Value} (h : Stp w G w1 G1) (hS : Sl w B n xs) (ha : Apt B G) : Sl w1 B n xs := hS.only h.on fun _ q o e => ha q o e
theorem Stp.own {P : World → (Nat → Prop) → Prop} {w w1 w2 : World} {G G1 : Nat → Prop} {v : Value} {e : Ending} (h : Stp w G w1 G1) (k : OwnPost P w1 G1 v e w2) : OwnPost P w G v e w2 := by
  obtain ⟨rfl, G2, hp, hn, ho⟩ := k
  obtain ⟨a, b⟩ := h.trans ⟨hn, ho⟩
  exact ⟨rfl, G2, hp, a, b⟩

section
variable {Q : Kq} {w : World} {F m how : Nat} {s : Lzs × Pm En} {out : List UInt8} {k : Ckn} {G : Nat → Prop}
theorem Kwn.hows (h : Kwn Q w F k m G) (x : Nat) : w.cell? ⟨Q.kg, 7, none⟩ = some (.int .i64 (k.how : Int)) ∧ w.frozen? ⟨Q.kg, 7, none⟩ = false ∧ Kwn Q (w.setCell ⟨Q.kg, 7, none⟩ (.int .i64 (x : Int))) F ⟨x, k.s, k.out⟩ m G ∧ Stp w G (w.setCell ⟨Q.kg, 7, none⟩ (.int .i64 (x : Int))) G := by
  obtain ⟨K, Ge, A, c, Ao, co, hs, hG⟩ := h
  have hO := (Only.refl (fun j => j = Q.kg) w).setCell (p := ⟨Q.kg, 7, none⟩) (.inl rfl) (.int .i64 (x : Int))
  refine ⟨hs.blk.cell 7, hs.blk.free 7, ⟨K, Ge, A, c, Ao, co, ⟨hs.blk.put 7 _, ?_, own_only' hs.own hO (fun i hi => (hs.oap i hi).2), hs.kap, hs.oap, hs.nl⟩, hG⟩, fun i hi => .inl hi, hO.mono fun i hi => (hG i).2 (.inr (.inl hi))⟩
  exact hs.cw.only hO (fun e => hs.kap (e ▸ .inl (.inr (.inr (.inl rfl))))) (fun e => hs.kap (e ▸ .inl (.inr (.inr (.inr rfl))))) (fun e => hs.kap (e ▸ .inl (.inl rfl))) (fun i hi e => hs.kap (e ▸ .inl (.inr (.inl hi)))) (fun i hi e => hs.kap (e ▸ .inr hi))
set_option maxRecDepth 100000 in
set_option maxHeartbeats 8000000 in
theorem kplain_any {B : Option Addr} {n c : Nat} {xs : List UInt8} (h : Kwn Q w F ⟨how, s, out⟩ m G) (hh : how ≤ 3) (hS : Sl w B n (bv xs)) (ha : Apt B G) (hn : 1 ≤ n) (hn2 : n ≤ 65536) (ho : out.length ≤ 90000000) :
    Calls Try.prog 31 #[.pointer (some ⟨Q.kg, 0, none⟩), .slice B n c] w (OwnPost (fun w G => Kwn Q w F ⟨nextH how, s, out ++ plainB how xs⟩ m G) w G (.tuple #[])) := by
  obtain ⟨i, hi, hz0, hz1, hz2⟩ := info_parts info_u8
  have hxl : xs.length = n := by rw [← bv_length]; exact hS.1
  have HS := Lib.hid (And.intro hS ha)
  have HN := Lib.hid (And.intro hn (And.intro hn2 (And.intro ho hxl)))
  have HK := Lib.hid h
  clear hS ha hn hn2 ho hxl h
  have h3 : how = 3 ∨ how = 0 ∨ (how ≠ 3 ∧ how ≠ 0) := by omega
  rcases h3 with e3 | e0 | ⟨n3, n0⟩
  · subst e3
    obtain ⟨c7, f7, k7, s7⟩ := HK.out.hows 2
    have c7 : w.cell? ⟨Q.kg, 7, none⟩ = some (.int .i64 3) := c7
    have HK2 := Lib.hid (show Kwn Q _ F ⟨nextH 3, s, out⟩ m G from k7)
    have HS2 := Lib.hid s7
    clear k7 s7
    clear HK hh
    go_enter Try.func31, Try.ntmps31
    go_upto_region 6 with fail
    have hw2 : w.setCell ⟨Q.kg, 7, none⟩ (.int .i64 ((2 : Nat) : Int)) = w.setCell ⟨Q.kg, 7, none⟩ (.int .i64 2) := rfl
    rw [hw2] at HK2 HS2
    clear hw2
    generalize w.setCell ⟨Q.kg, 7, none⟩ (.int .i64 2) = w2 at *
    obtain ⟨K, Ge, A, cc, Ao, co, hs, hG⟩ := HK2.out
    have c8 : w2.cell? ⟨Q.kg, 8, none⟩ = some (.slice Ao out.length co) := hs.blk.cell 8
    have HT := Lib.hid (And.intro hs hG)
    clear hs hG
    go_wp2_with (first
      | (at_builtin; refine wpList_appO _ rfl (.tmp 23) (.tmp 25) 22 rfl 0 5 i _ 1 Try.underlying22 hi hz0 hz1 hz2 rfl _ out.length (bv out) rfl (HT.out.1.own.alloc _) _ 1 1 (bv [(1 : UInt8)]) rfl (sl_b1 w2 (1 : UInt8)) (bv_one _) (by have := HN.out; omega) (by decide) (Nat.zero_le _) ?_)
      | fail)
    intro A2 c2 w3 ho3 hg3 hv3
    obtain ⟨⟨d8, f8⟩, hp⟩ := HT.out.1.puts HT.out.2 (xs := [(1 : UInt8)]) (n := 1) rfl ((Only.refl _ w2).alloc _) ho3 hg3 (by simpa using hv3)
    obtain ⟨_, G3, k3, n3', o3'⟩ := HS2.out.own hp
    have HK3 := Lib.hid k3
    have HS3 := Lib.hid (Stp.mk n3' o3')
    clear ho3 hg3 hv3 hp c8 k3 n3' o3' HT HK2 HS2
    have HKC := Lib.hid (fun (n : Nat) (h1 : 1 ≤ n) (h2 : n ≤ 65536) (h3 : (out ++ [(1 : UInt8)]).length ≤ 100000000) => kcount_any (n := n) HK3.out h1 h2 h3)
    generalize hw4 : w3.setCell ⟨Q.kg, 8, none⟩ (.slice A2 (out.length + 1) c2) = w4 at HK3 HS3 HKC
    go_upto_region 7 with fail
    try rw [hw4]
    clear hw4 d8 f8
    have HKC := Lib.hid (HKC.out n HN.out.1 HN.out.2.1 (by have := HN.out; simp; omega))
    go_wp2_with fail
    refine HKC.out.mono ?_
    rintro e w5 hp5
    obtain ⟨rfl, G5, k5, n5, o5⟩ := HS3.out.own hp5
    obtain ⟨D, hD⟩ : ∃ D, D = (out ++ [(1 : UInt8)]) ++ cntB n := ⟨_, rfl⟩
    have k5 : Kwn Q w5 F ⟨nextH 3, s, D⟩ m G5 := by rw [hD]; exact k5
    have HK5 := Lib.hid k5
    have HS5 := Lib.hid (Stp.mk n5 o5)
    clear hp5 k5 n5 o5 HK3 HS3 HKC
    obtain ⟨K, Ge, A, cc, Ao, co, hs, hG⟩ := HK5.out
    have c8 : w5.cell? ⟨Q.kg, 8, none⟩ = some (.slice Ao D.length co) := hs.blk.cell 8
    have hlen : D.length = out.length + 3 := by rw [hD]; simp [cntB]
    have HD := Lib.hid hD
    clear hD
    rw [hlen] at c8
    have HT := Lib.hid (And.intro hs hG)
    have HL := Lib.hid hlen
    have hown : w5.ownsRow 0 5 1 (.slice Ao (out.length + 3) co) (out.length + 3) (bv D) := by rw [← hlen]; exact hs.own
    have HOW := Lib.hid hown
    have HSL := Lib.hid (HS5.out.sl HS.out.1 HS.out.2)
    clear hs hG hlen hown
    go_wp2_with (first
      | (at_builtin; refine wpList_appO _ rfl (.tmp 37) (.tmp 38) 22 rfl 0 5 i _ 1 Try.underlying22 hi hz0 hz1 hz2 rfl _ (out.length + 3) _ rfl HOW.out _ n _ (bv xs) rfl HSL.out (bv_one _) (by have := HN.out; omega) (by decide) (Nat.zero_le _) ?_)
      | fail)
    intro A6 c6 w6 ho6 hg6 hv6
    obtain ⟨⟨d8, f8⟩, hp⟩ := HT.out.1.puts HT.out.2 (xs := xs) (n := n) HN.out.2.2.2 (Only.refl _ w5) (by rw [HL.out]; exact ho6) (by rw [HL.out]; exact hg6) (by rw [HL.out]; exact hv6)
    rw [HL.out] at d8 hp
    have HP := Lib.hid (HS5.out.own hp)
    clear ho6 hg6 hv6 hp c8 HT HOW HSL HK5
    go_wp2_with fail
    first | go_end0 | refine bodyPost_ret (results_none rfl _ _ _) rfl ?_
    obtain ⟨_, G7, k7, n7, o7⟩ := HP.out
    refine ⟨rfl, G7, ?_, n7, o7⟩
    have e : out ++ plainB 3 xs = D ++ xs := by
      rw [HD.out]
      unfold plainB
      rw [HN.out.2.2.2]
      simp only [List.append_assoc]
      first | rfl | rw [if_neg HNE.out]
    rw [e]
    exact k7
  · subst e0
    obtain ⟨c7, f7, k7, s7⟩ := HK.out.hows 1
    have c7 : w.cell? ⟨Q.kg, 7, none⟩ = some (.int .i64 0) := c7
    have HK2 := Lib.hid (show Kwn Q _ F ⟨nextH 0, s, out⟩ m G from k7)
    have HS2 := Lib.hid s7
    clear k7 s7
    clear HK hh
    go_enter Try.func31, Try.ntmps31
    go_upto_region 6 with fail
    have hw2 : w.setCell ⟨Q.kg, 7, none⟩ (.int .i64 ((1 : Nat) : Int)) = w.setCell ⟨Q.kg, 7, none⟩ (.int .i64 1) := rfl
    rw [hw2] at HK2 HS2
    clear hw2
    generalize w.setCell ⟨Q.kg, 7, none⟩ (.int .i64 1) = w2 at *
    obtain ⟨K, Ge, A, cc, Ao, co, hs, hG⟩ := HK2.out
    have c8 : w2.cell? ⟨Q.kg, 8, none⟩ = some (.slice Ao out.length co) := hs.blk.cell 8
    have HT := Lib.hid (And.intro hs hG)
    clear hs hG
    go_wp2_with (first
      | (at_builtin; refine wpList_appO _ rfl (.tmp 23) (.tmp 25) 22 rfl 0 5 i _ 1 Try.underlying22 hi hz0 hz1 hz2 rfl _ out.length (bv out) rfl (HT.out.1.own.alloc _) _ 1 1 (bv [(2 : UInt8)]) rfl (sl_b1 w2 (2 : UInt8)) (bv_one _) (by have := HN.out; omega) (by decide) (Nat.zero_le _) ?_)
      | fail)
    intro A2 c2 w3 ho3 hg3 hv3
    obtain ⟨⟨d8, f8⟩, hp⟩ := HT.out.1.puts HT.out.2 (xs := [(2 : UInt8)]) (n := 1) rfl ((Only.refl _ w2).alloc _) ho3 hg3 (by simpa using hv3)
    obtain ⟨_, G3, k3, n3', o3'⟩ := HS2.out.own hp
    have HK3 := Lib.hid k3
    have HS3 := Lib.hid (Stp.mk n3' o3')
    clear ho3 hg3 hv3 hp c8 k3 n3' o3' HT HK2 HS2
    have HKC := Lib.hid (fun (n : Nat) (h1 : 1 ≤ n) (h2 : n ≤ 65536) (h3 : (out ++ [(2 : UInt8)]).length ≤ 100000000) => kcount_any (n := n) HK3.out h1 h2 h3)
    generalize hw4 : w3.setCell ⟨Q.kg, 8, none⟩ (.slice A2 (out.length + 1) c2) = w4 at HK3 HS3 HKC
    go_upto_region 7 with fail
    try rw [hw4]
    clear hw4 d8 f8
    have HKC := Lib.hid (HKC.out n HN.out.1 HN.out.2.1 (by have := HN.out; simp; omega))
    go_wp2_with fail
    refine HKC.out.mono ?_
    rintro e w5 hp5
    obtain ⟨rfl, G5, k5, n5, o5⟩ := HS3.out.own hp5
    obtain ⟨D, hD⟩ : ∃ D, D = (out ++ [(2 : UInt8)]) ++ cntB n := ⟨_, rfl⟩
    have k5 : Kwn Q w5 F ⟨nextH 0, s, D⟩ m G5 := by rw [hD]; exact k5
    have HK5 := Lib.hid k5
    have HS5 := Lib.hid (Stp.mk n5 o5)
    clear hp5 k5 n5 o5 HK3 HS3 HKC
    obtain ⟨K, Ge, A, cc, Ao, co, hs, hG⟩ := HK5.out
    have c8 : w5.cell? ⟨Q.kg, 8, none⟩ = some (.slice Ao D.length co) := hs.blk.cell 8
    have hlen : D.length = out.length + 3 := by rw [hD]; simp [cntB]
    have HD := Lib.hid hD
    clear hD
    rw [hlen] at c8
    have HT := Lib.hid (And.intro hs hG)
    have HL := Lib.hid hlen
    have hown : w5.ownsRow 0 5 1 (.slice Ao (out.length + 3) co) (out.length + 3) (bv D) := by rw [← hlen]; exact hs.own
    have HOW := Lib.hid hown
    have HSL := Lib.hid (HS5.out.sl HS.out.1 HS.out.2)
    clear hs hG hlen hown
    go_wp2_with (first
      | (at_builtin; refine wpList_appO _ rfl (.tmp 37) (.tmp 38) 22 rfl 0 5 i _ 1 Try.underlying22 hi hz0 hz1 hz2 rfl _ (out.length + 3) _ rfl HOW.out _ n _ (bv xs) rfl HSL.out (bv_one _) (by have := HN.out; omega) (by decide) (Nat.zero_le _) ?_)
      | fail)
    intro A6 c6 w6 ho6 hg6 hv6
    obtain ⟨⟨d8, f8⟩, hp⟩ := HT.out.1.puts HT.out.2 (xs := xs) (n := n) HN.out.2.2.2 (Only.refl _ w5) (by rw [HL.out]; exact ho6) (by rw [HL.out]; exact hg6) (by rw [HL.out]; exact hv6)
    rw [HL.out] at d8 hp
    have HP := Lib.hid (HS5.out.own hp)
    clear ho6 hg6 hv6 hp c8 HT HOW HSL HK5
    go_wp2_with fail
    first | go_end0 | refine bodyPost_ret (results_none rfl _ _ _) rfl ?_
    obtain ⟨_, G7, k7, n7, o7⟩ := HP.out
    refine ⟨rfl, G7, ?_, n7, o7⟩
    have e : out ++ plainB 0 xs = D ++ xs := by
      rw [HD.out]
      unfold plainB
      rw [HN.out.2.2.2]
      simp only [List.append_assoc]
      first | rfl | rw [if_neg HNE.out]
    rw [e]
    exact k7
  · have HNE := Lib.hid n3
    obtain ⟨c7, f7, _, _⟩ := HK.out.hows 1
    have c7 : w.cell? ⟨Q.kg, 7, none⟩ = some (.int .i64 (how : Int)) := c7
    have g3 : ¬ (how : Int) = 3 := by omega
    have g0 : ¬ (how : Int) = 0 := by omega
    have HK2 := Lib.hid (show Kwn Q w F ⟨nextH how, s, out⟩ m G by unfold nextH; rw [if_neg n3, if_neg n0]; exact HK.out)
    obtain ⟨w0, hw0⟩ : ∃ w0, w0 = w := ⟨_, rfl⟩
    have HS2 := Lib.hid (show Stp w0 G w G by rw [hw0]; exact Stp.refl w G)
    have HSx := Lib.hid (show Sl w0 B n (bv xs) ∧ Apt B G by rw [hw0]; exact HS.out)
    clear HS
    have HS := HSx
    clear HSx
    rw [show OwnPost (fun w G => Kwn Q w F ⟨nextH how, s, out ++ plainB how xs⟩ m G) w G (.tuple #[]) = OwnPost (fun w G => Kwn Q w F ⟨nextH how, s, out ++ plainB how xs⟩ m G) w0 G (.tuple #[]) by rw [hw0]]
    clear n3 n0 hw0
    clear HK hh
    go_enter Try.func31, Try.ntmps31
    go_upto_region 6 with fail
    generalize w = w2 at *
    obtain ⟨K, Ge, A, cc, Ao, co, hs, hG⟩ := HK2.out
    have c8 : w2.cell? ⟨Q.kg, 8, none⟩ = some (.slice Ao out.length co) := hs.blk.cell 8
    have HT := Lib.hid (And.intro hs hG)
    clear hs hG
    go_wp2_with (first
      | (at_builtin; refine wpList_appO _ rfl (.tmp 23) (.tmp 25) 22 rfl 0 5 i _ 1 Try.underlying22 hi hz0 hz1 hz2 rfl _ out.length (bv out) rfl (HT.out.1.own.alloc _) _ 1 1 (bv [(2 : UInt8)]) rfl (sl_b1 w2 (2 : UInt8)) (bv_one _) (by have := HN.out; omega) (by decide) (Nat.zero_le _) ?_)
      | fail)
    intro A2 c2 w3 ho3 hg3 hv3
    obtain ⟨⟨d8, f8⟩, hp⟩ := HT.out.1.puts HT.out.2 (xs := [(2 : UInt8)]) (n := 1) rfl ((Only.refl _ w2).alloc _) ho3 hg3 (by simpa using hv3)
    obtain ⟨_, G3, k3, n3', o3'⟩ := HS2.out.own hp
    have HK3 := Lib.hid k3
    have HS3 := Lib.hid (Stp.mk n3' o3')
    clear ho3 hg3 hv3 hp c8 k3 n3' o3' HT HK2 HS2
    have HKC := Lib.hid (fun (n : Nat) (h1 : 1 ≤ n) (h2 : n ≤ 65536) (h3 : (out ++ [(2 : UInt8)]).length ≤ 100000000) => kcount_any (n := n) HK3.out h1 h2 h3)
    generalize hw4 : w3.setCell ⟨Q.kg, 8, none⟩ (.slice A2 (out.length + 1) c2) = w4 at HK3 HS3 HKC
    go_upto_region 7 with fail
    try rw [hw4]
    clear hw4 d8 f8
    have HKC := Lib.hid (HKC.out n HN.out.1 HN.out.2.1 (by have := HN.out; simp; omega))
    go_wp2_with fail
    refine HKC.out.mono ?_
    rintro e w5 hp5
    obtain ⟨rfl, G5, k5, n5, o5⟩ := HS3.out.own hp5
    obtain ⟨D, hD⟩ : ∃ D, D = (out ++ [(2 : UInt8)]) ++ cntB n := ⟨_, rfl⟩
    have k5 : Kwn Q w5 F ⟨nextH how, s, D⟩ m G5 := by rw [hD]; exact k5
    have HK5 := Lib.hid k5
    have HS5 := Lib.hid (Stp.mk n5 o5)
    clear hp5 k5 n5 o5 HK3 HS3 HKC
    obtain ⟨K, Ge, A, cc, Ao, co, hs, hG⟩ := HK5.out
    have c8 : w5.cell? ⟨Q.kg, 8, none⟩ = some (.slice Ao D.length co) := hs.blk.cell 8
    have hlen : D.length = out.length + 3 := by rw [hD]; simp [cntB]
    have HD := Lib.hid hD
    clear hD
    rw [hlen] at c8
    have HT := Lib.hid (And.intro hs hG)
    have HL := Lib.hid hlen
    have hown : w5.ownsRow 0 5 1 (.slice Ao (out.length + 3) co) (out.length + 3) (bv D) := by rw [← hlen]; exact hs.own
    have HOW := Lib.hid hown
    have HSL := Lib.hid (HS5.out.sl HS.out.1 HS.out.2)
    clear hs hG hlen hown
    go_wp2_with (first
      | (at_builtin; refine wpList_appO _ rfl (.tmp 37) (.tmp 38) 22 rfl 0 5 i _ 1 Try.underlying22 hi hz0 hz1 hz2 rfl _ (out.length + 3) _ rfl HOW.out _ n _ (bv xs) rfl HSL.out (bv_one _) (by have := HN.out; omega) (by decide) (Nat.zero_le _) ?_)
      | fail)
    intro A6 c6 w6 ho6 hg6 hv6
    obtain ⟨⟨d8, f8⟩, hp⟩ := HT.out.1.puts HT.out.2 (xs := xs) (n := n) HN.out.2.2.2 (Only.refl _ w5) (by rw [HL.out]; exact ho6) (by rw [HL.out]; exact hg6) (by rw [HL.out]; exact hv6)
    rw [HL.out] at d8 hp
    have HP := Lib.hid (HS5.out.own hp)
    clear ho6 hg6 hv6 hp c8 HT HOW HSL HK5
    go_wp2_with fail
    first | go_end0 | refine bodyPost_ret (results_none rfl _ _ _) rfl ?_
    obtain ⟨_, G7, k7, n7, o7⟩ := HP.out
    refine ⟨rfl, G7, ?_, n7, o7⟩
    have e : out ++ plainB how xs = D ++ xs := by
      rw [HD.out]
      unfold plainB
      rw [HN.out.2.2.2]
      simp only [List.append_assoc]
      first | rfl | rw [if_neg HNE.out]
    rw [e]
    exact k7
end
end Go.Proofs.Ytjganponepafpaa

/-
  The coder of LZMA2 in memory: its coder codes, begins anew, ends a stream.
-/
namespace Go.Proofs.Ytjganponepafpaa
open Go.RowKit

section
variable {Q : Kq} {K : Koc} {w w' : World} {Ge : Option Nat} {A : Option Addr} {c F m : Nat} {k : Ckn} {Ao : Option Addr} {co : Nat} {G : Nat → Prop}
/-- the coder has gone on; its own blocks are what they were, or new -/
theorem Kst.turn {K' : Koc} {Ge' : Option Nat} {A' : Option Addr} {c' m' : Nat} {s' : Lzs × Pm En} (h : Kst Q K w Ge A c F k m Ao co) (hG : ∀ i, G i ↔ Kow Q K Ge (tb A k.s.1.out.length c) (tb Ao k.out.length co) i)
    (hg : K'.g = K.g) (hnl : K'.nl = K.nl) (hc : Cw K' w' Ge' A' c' s'.1 m' s'.2) (hn : ∀ i, K'.all Ge' (tb A' s'.1.out.length c') i → K.all Ge (tb A k.s.1.out.length c) i ∨ w.heap.size ≤ i) (hO : Only (K.all Ge (tb A k.s.1.out.length c)) w w') :
    Kst Q K' w' Ge' A' c' F ⟨k.how, s', k.out⟩ m' Ao co ∧ Stp w G w' (Kow Q K' Ge' (tb A' s'.1.out.length c') (tb Ao k.out.length co)) := by
  have hlt := h.blk.lt
  refine ⟨⟨?_, hc, own_only' h.own hO (fun i hi => (h.oap i hi).1), ?_, ?_, hnl.trans h.nl⟩, ?_, hO.mono fun i hi => (hG i).2 (.inl hi)⟩
  · have := h.blk.only hO h.kap
    unfold ckCells at this ⊢
    rw [hg]
    exact this
  · intro hk
    rcases hn _ hk with e | e
    · exact h.kap e
    · omega
  · intro i hi
    have hi2 := h.oap i hi
    have hol := own_old h.own hi
    refine ⟨fun hk => ?_, hi2.2⟩
    rcases hn _ hk with e | e
    · exact hi2.1 e
    · omega
  · rintro i (e | e | e)
    · rcases hn i e with e | e
      · exact .inl ((hG i).2 (.inl e))
      · exact .inr e
    · exact .inl ((hG i).2 (.inr (.inl e)))
    · exact .inl ((hG i).2 (.inr (.inr e)))
theorem Kst.own' {K' : Koc} {Ge' : Option Nat} {A' : Option Addr} {c' m' : Nat} {s' : Lzs × Pm En} (v : Value) (h : Kst Q K' w' Ge' A' c' F ⟨k.how, s', k.out⟩ m' Ao co ∧ Stp w G w' (Kow Q K' Ge' (tb A' s'.1.out.length c') (tb Ao k.out.length co))) :
    OwnPost (fun w G => Kwn Q w F ⟨k.how, s', k.out⟩ m' G) w G v (.returned v) w' := ⟨rfl, _, ⟨K', Ge', A', c', Ao, co, h.1, fun i => Iff.rfl⟩, h.2.nw, h.2.on⟩
theorem Kst.code {s' : Lzs × Pm En} {m' : Nat} {v : Value} {e : Ending} (h : Kst Q K w Ge A c F k m Ao co) (hG : ∀ i, G i ↔ Kow Q K Ge (tb A k.s.1.out.length c) (tb Ao k.out.length co) i)
    (hp : CPut K w Ge (tb A k.s.1.out.length c) v s'.1 m' s'.2 e w') : OwnPost (fun w G => Kwn Q w F ⟨k.how, s', k.out⟩ m' G) w G v e w' := by
  obtain ⟨rfl, Ge', A', c', hc, n1, n2, hO⟩ := hp
  refine Kst.own' _ (h.turn hG rfl rfl hc ?_ hO)
  rintro i ((e | e | e | e) | e)
  · exact .inl (.inl (.inl e))
  · exact (n1 i e).imp (fun e => .inl (.inr (.inl e))) id
  · exact .inl (.inl (.inr (.inr (.inl e))))
  · exact .inl (.inl (.inr (.inr (.inr e))))
  · exact (n2 i e).imp (fun e => .inr e) id
theorem Kst.re {m' : Nat} {e : Ending} (h : Kst Q K w Ge A c F k m Ao co) (hG : ∀ i, G i ↔ Kow Q K Ge (tb A k.s.1.out.length c) (tb Ao k.out.length co) i)
    (hp : AnewPost K w Ge A c k.s m' e w') : OwnPost (fun w G => Kwn Q w F ⟨k.how, reS k.s, k.out⟩ m' G) w G (.tuple #[]) e w' := by
  obtain ⟨rfl, lb, hlb, hc, hO⟩ := hp
  refine Kst.own' _ (h.turn (K' := ⟨K.g, lb, K.nl, K.eg⟩) hG rfl rfl hc ?_ (hO.mono fun i hi => hi ▸ .inl (.inr (.inr (.inl rfl)))))
  rintro i ((e | e | e | e) | e)
  · exact .inl (.inl (.inl e))
  · exact .inl (.inl (.inr (.inl e)))
  · exact .inl (.inl (.inr (.inr (.inl e))))
  · exact .inr (by have e : i = lb := e; omega)
  · exact .inl (.inr e)
theorem Kwn.fat (h : Kwn Q w F k m G) (x : Nat) : w.cell? ⟨Q.kg, 1, none⟩ = some (.int .i64 (F : Int)) ∧ w.frozen? ⟨Q.kg, 1, none⟩ = false ∧ Kwn Q (w.setCell ⟨Q.kg, 1, none⟩ (.int .i64 (x : Int))) x k m G ∧ Stp w G (w.setCell ⟨Q.kg, 1, none⟩ (.int .i64 (x : Int))) G := by
  obtain ⟨K, Ge, A, c, Ao, co, hs, hG⟩ := h
  have hO := (Only.refl (fun j => j = Q.kg) w).setCell (p := ⟨Q.kg, 1, none⟩) (.inl rfl) (.int .i64 (x : Int))
  refine ⟨hs.blk.cell 1, hs.blk.free 1, ⟨K, Ge, A, c, Ao, co, ⟨hs.blk.put 1 _, ?_, own_only' hs.own hO (fun i hi => (hs.oap i hi).2), hs.kap, hs.oap, hs.nl⟩, hG⟩, fun i hi => .inl hi, hO.mono fun i hi => (hG i).2 (.inr (.inl hi))⟩
  exact hs.cw.only hO (fun e => hs.kap (e ▸ .inl (.inr (.inr (.inl rfl))))) (fun e => hs.kap (e ▸ .inl (.inr (.inr (.inr rfl))))) (fun e => hs.kap (e ▸ .inl (.inl rfl))) (fun i hi e => hs.kap (e ▸ .inl (.inr (.inl hi)))) (fun i hi e => hs.kap (e ▸ .inr hi))
theorem Kst.again {m' : Nat} (h : Kst Q K w Ge A c F k m Ao co) (hk : PmOk okE (1847 + 768 * 2 ^ (Q.lc + Q.lp)) m' k.s.2) : Kst Q K w Ge A c F k m' Ao co :=
  ⟨h.blk, h.cw.again (by rw [h.nl]; exact hk), h.own, h.kap, h.oap, h.nl⟩
theorem Pkts.only {S : Nat → Prop} {B : Option Addr} {n : Nat} {q : Nat → Pq} (h : Pkts w B n q) (hO : Only S w w') (ha : Apt B S) : Pkts w' B n q := by
  intro hm
  obtain ⟨b, o, e, hlt, hc⟩ := h hm
  have hbk := hO.block b hlt (ha b o e)
  refine ⟨b, o, e, Nat.lt_of_lt_of_le hlt hO.size, fun i hi => ?_⟩
  obtain ⟨r1, r2, r3, r4⟩ := hc i hi
  exact ⟨(World.cell?_of_block hbk).trans r1, (World.cell?_of_block hbk).trans r2, (World.cell?_of_block hbk).trans r3, (World.cell?_of_block hbk).trans r4⟩
theorem four_set {S : Nat → Prop} {a wb : World} {X : Nat} {v0 v1 v2 v3 : Value} (h : Only S a wb) (hX : S X ∨ a.heap.size ≤ X) : Only S a ((((wb.setCell ⟨X, 0, none⟩ v0).setCell ⟨X, 1, none⟩ v1).setCell ⟨X, 2, none⟩ v2).setCell ⟨X, 3, none⟩ v3) :=
  (((h.setCell (p := ⟨X, 0, none⟩) hX v0).setCell (p := ⟨X, 1, none⟩) hX v1).setCell (p := ⟨X, 2, none⟩) hX v2).setCell (p := ⟨X, 3, none⟩) hX v3
/-- the stream's row is no block of what goes on -/
def StrPost (Q : Kq) (w : World) (F : Nat) (how : Nat) (s : Lzs × Pm En) (out : List UInt8) (m : Nat) (G : Nat → Prop) (x : Ending) (w' : World) : Prop :=
  ∃ B c G', x = .returned (.slice B s.2.x.l c) ∧ Sl w' B s.2.x.l (bv (strB s)) ∧ Apt B G' ∧ Kwn Q w' F ⟨how, finS s, out⟩ m G' ∧ Stp w G w' G'
theorem Kst.fin {m' : Nat} {e : Ending} (h : Kst Q K w Ge A c F k m Ao co) (hG : ∀ i, G i ↔ Kow Q K Ge (tb A k.s.1.out.length c) (tb Ao k.out.length co) i)
    (he : k.s.1.ended = false) (h0 : 0 < k.s.2.x.l) (hp : CEndPost K w Ge A c k.s m' e w') : StrPost Q w F k.how k.s k.out m' G e w' := by
  obtain ⟨B, cc, rfl, hS, hn, hle, hc, hO⟩ := hp
  have hc : Cw K w' none A c (finS k.s).1 m' (finS k.s).2 := by
    have e : ({ k.s.1 with ended := false } : Lzs) = k.s.1 := by rw [← he]
    rw [e] at hc
    exact hc
  have hO' : Only (K.all Ge (tb A k.s.1.out.length c)) w w' := hO.mono fun i hi => .inl hi
  obtain ⟨hk, hst⟩ := h.turn (s' := finS k.s) hG rfl rfl hc (by
    rintro i ((e | e | e | e) | e)
    · exact .inl (.inl (.inl e))
    · exact (nomatch e)
    · exact .inl (.inl (.inr (.inr (.inl e))))
    · exact .inl (.inl (.inr (.inr (.inr e))))
    · exact .inl (.inr e)) hO'
  refine ⟨B, cc, _, rfl, hS, ?_, ⟨K, none, A, c, Ao, co, hk, fun i => Iff.rfl⟩, hst⟩
  intro q o e hG'
  subst e
  have hol := hst.nw q hG'
  rcases hn q rfl with e | e
  · rcases hG' with ((e2 | e2 | e2 | e2) | e2) | e2 | e2
    · exact (h.cw.ap.eo q e).2.2 e2
    · exact (nomatch e2)
    · exact (h.cw.ap.eo q e).1 e2
    · exact (h.cw.ap.eo q e).2.1 e2
    · exact (h.cw.ap.ta q e2).2.2.2 e
    · subst e2
      exact h.kap (.inl (.inr (.inl e)))
    · exact (h.oap q e2).1 (.inl (.inr (.inl e)))
  · obtain ⟨o1, o2, o3, o4, o5⟩ := h.cw.old
    have hlt := h.blk.lt
    rcases hG' with ((e2 | e2 | e2 | e2) | e2) | e2 | e2
    · omega
    · exact (nomatch e2)
    · have e2 : q = K.g := e2
      omega
    · have e2 : q = K.lb := e2
      omega
    · have := o5 q e2
      omega
    · omega
    · have := own_old h.own e2
      omega
end
end Go.Proofs.Ytjganponepafpaa

/-
  The reference's copy at a distance.
-/
namespace Go.Proofs.Ytjganponepafpaa
open Go.RowKit

theorem u8_ne {x y : UInt8} (h : ¬ x = y) : ((x.toNat : Int) == (y.toNat : Int)) = false := by
  have : x.toNat ≠ y.toNat := fun e => h (UInt8.toNat_inj.1 e)
  simp; omega
/-- a loop that counts bytes that are the same -/
structure SameTo (b : List UInt8) (o i j : Nat) : Prop where
  same : ∀ k, k < j → b.getD (i + k) 0 = b.getD (i + k - o) 0
theorem SameTo.zero (b : List UInt8) (o i : Nat) : SameTo b o i 0 := ⟨fun k hk => absurd hk (Nat.not_lt_zero k)⟩
theorem SameTo.succ {b : List UInt8} {o i j : Nat} (h : SameTo b o i j) (he : b.getD (i + j) 0 = b.getD (i + j - o) 0) : SameTo b o i (j + 1) :=
  ⟨fun k hk => by
    by_cases hkj : k = j
    · subst hkj
      exact he
    · exact h.same k (by omega)⟩
theorem SameTo.full {b : List UInt8} {o i j f : Nat} (h : SameTo b o i j) (hj : j = f) : eqN b o f i = j := eqN_is (by omega) h.same (fun h => absurd h (by omega))
theorem SameTo.stop {b : List UInt8} {o i j f : Nat} (h : SameTo b o i j) (hj : j < f) (hs : ¬ b.getD (i + j) 0 = b.getD (i + j - o) 0) : eqN b o f i = j := eqN_is (by omega) h.same (fun _ => hs)

end Go.Proofs.Ytjganponepafpaa

/-
  Lists of places, as numbers: the last place of a list, and the longest copy that is found by them.
-/
namespace Go.Proofs.Ytjganponepafpaa
open Go.RowKit

theorem pi64_or (a b : Nat) (ha : a < 9223372036854775808) (hb : b < 9223372036854775808) : bits .or .i64 (a : Int) (b : Int) = ((a ||| b : Nat) : Int) := by
  have hx : a ||| b < 2 ^ 63 := Nat.or_lt_two_pow (by omega) (by omega)
  show IntKind.i64.wrap ((BitVec.ofInt 64 (a : Int) ||| BitVec.ofInt 64 (b : Int)).toNat : Int) = _
  rw [BitVec.toNat_or, ofInt_u64 a (by omega), ofInt_u64 b (by omega), IntKind.wrap_i64]
  omega
theorem pi64_and (a b : Nat) (ha : a < 9223372036854775808) (hb : b < 9223372036854775808) : bits .and .i64 (a : Int) (b : Int) = ((a &&& b : Nat) : Int) := by
  have hx : a &&& b < 2 ^ 63 := Nat.and_lt_two_pow _ (by omega)
  show IntKind.i64.wrap ((BitVec.ofInt 64 (a : Int) &&& BitVec.ofInt 64 (b : Int)).toNat : Int) = _
  rw [BitVec.toNat_and, ofInt_u64 a (by omega), ofInt_u64 b (by omega), IntKind.wrap_i64]
  omega
/-- two bytes -/
def twoP (b : List UInt8) (p : Nat) : Nat := (b.getD p 0).toNat * 256 ||| (b.getD (p + 1) 0).toNat
theorem twoP_lt (b : List UInt8) (p : Nat) : twoP b p < 65536 := by
  have h1 := (b.getD p 0).toNat_lt
  have h2 := (b.getD (p + 1) 0).toNat_lt
  exact Nat.or_lt_two_pow (n := 16) (by omega) (by omega)
/-- which list -/
def hashP (b : List UInt8) (sz p : Nat) : Nat := twoP b p &&& (sz - 1)
theorem hash_lt {b : List UInt8} {sz p : Nat} (h : 1 ≤ sz) : hashP b sz p < sz := by
  have : hashP b sz p ≤ sz - 1 := Nat.and_le_right
  omega
theorem hash_same {b : List UInt8} {sz p q : Nat} (h0 : b.getD p 0 = b.getD q 0) (h1 : b.getD (p + 1) 0 = b.getD (q + 1) 0) : hashP b sz p = hashP b sz q := by
  unfold hashP twoP
  rw [h0, h1]
/-- the last place below n of a list, and 1; 0 if there is none -/
def lastN (h : Nat → Nat) (v : Nat) : Nat → Nat
  | 0 => 0
  | p + 1 => if h p = v then p + 1 else lastN h v p
theorem lastN_le (h : Nat → Nat) (v : Nat) : ∀ n, lastN h v n ≤ n
  | 0 => Nat.le_refl _
  | p + 1 => by
    have := lastN_le h v p
    unfold lastN
    split <;> omega
theorem lastN_none {h : Nat → Nat} {v : Nat} : ∀ {n}, lastN h v n = 0 → ∀ p, p < n → h p ≠ v
  | 0, _, p, hp => absurd hp (Nat.not_lt_zero p)
  | n + 1, h0, p, hp => by
    unfold lastN at h0
    split at h0
    · omega
    · rename_i hn
      by_cases e : p = n
      · subst e; exact hn
      · exact lastN_none h0 p (by omega)
theorem lastN_some {h : Nat → Nat} {v q : Nat} : ∀ {n}, lastN h v n = q + 1 → q < n ∧ h q = v ∧ ∀ p, q < p → p < n → h p ≠ v
  | 0, h0 => by unfold lastN at h0; omega
  | n + 1, h0 => by
    unfold lastN at h0
    split at h0
    · rename_i hn
      obtain rfl : q = n := by omega
      exact ⟨by omega, hn, fun p h1 h2 => by omega⟩
    · rename_i hn
      obtain ⟨h1, h2, h3⟩ := lastN_some h0
      exact ⟨by omega, h2, fun p h4 h5 => by
        by_cases e : p = n
        · subst e; exact hn
        · exact h3 p h4 (by omega)⟩

/-- the longest copy of the first n distances, if it is worth it -/
def wor (g : Nat → Nat) (l0 n : Nat) : Nat × Nat := if l0 ≤ (best g n).2 then best g n else (0, 0)
def leastOf (l0 : Nat) (x : Nat × Nat) : Nat := if x.2 = 0 then l0 else x.2 + 1
theorem wor_zero (g : Nat → Nat) (l0 : Nat) : wor g l0 0 = (0, 0) := by
  unfold wor
  show (if l0 ≤ 0 then ((0, 0) : Nat × Nat) else (0, 0)) = (0, 0)
  split <;> rfl
theorem wor_skip {g : Nat → Nat} {l0 n : Nat} (h1 : 1 ≤ l0) (h : g n < leastOf l0 (wor g l0 n)) : wor g l0 (n + 1) = wor g l0 n := by
  unfold leastOf wor at h
  by_cases hb : l0 ≤ (best g n).2
  · rw [if_pos hb, if_neg (by omega)] at h
    have e : best g (n + 1) = best g n := if_neg (by omega)
    unfold wor
    rw [e]
  · rw [if_neg hb, if_pos rfl] at h
    unfold wor
    rw [if_neg hb]
    have e : (best g (n + 1)).2 < l0 := by
      show (if (best g n).2 < g n then (n, g n) else best g n).2 < l0
      split
      · exact h
      · omega
    rw [if_neg (by omega)]
theorem wor_take {g : Nat → Nat} {l0 n : Nat} (h1 : 1 ≤ l0) (h : leastOf l0 (wor g l0 n) ≤ g n) : wor g l0 (n + 1) = (n, g n) := by
  have hlt : (best g n).2 < g n ∧ l0 ≤ g n := by
    unfold leastOf wor at h
    by_cases hb : l0 ≤ (best g n).2
    · rw [if_pos hb, if_neg (by omega)] at h
      omega
    · rw [if_neg hb, if_pos rfl] at h
      omega
  have e : best g (n + 1) = (n, g n) := if_pos hlt.1
  unfold wor
  rw [e, if_pos hlt.2]
theorem wor_skips {g : Nat → Nat} {l0 n : Nat} (h1 : 1 ≤ l0) : ∀ k, (∀ d, n ≤ d → d < n + k → g d < leastOf l0 (wor g l0 n)) → wor g l0 (n + k) = wor g l0 n
  | 0, _ => rfl
  | k + 1, h => by
    have ih := wor_skips h1 k (fun d h2 h3 => h d h2 (by omega))
    have := wor_skip (g := g) (l0 := l0) (n := n + k) h1 (by rw [ih]; exact h (n + k) (by omega) (by omega))
    rw [show n + (k + 1) = n + k + 1 by omega, this, ih]
theorem wor_to {g : Nat → Nat} {l0 n N : Nat} (h1 : 1 ≤ l0) (hn : n ≤ N) (h : ∀ d, n ≤ d → d < N → g d < leastOf l0 (wor g l0 n)) : wor g l0 N = wor g l0 n := by
  have := wor_skips (g := g) (l0 := l0) (n := n) h1 (N - n) (fun d h2 h3 => h d h2 (by omega))
  rwa [show n + (N - n) = N by omega] at this
theorem least_ge {l0 : Nat} {x : Nat × Nat} (h : 2 ≤ l0) (hx : x.2 = 0 ∨ l0 ≤ x.2) : 2 ≤ leastOf l0 x := by
  unfold leastOf
  split <;> omega
theorem wor_or (g : Nat → Nat) (l0 n : Nat) : wor g l0 n = (0, 0) ∨ (l0 ≤ (wor g l0 n).2) := by
  unfold wor
  split
  · rename_i h; exact .inr h
  · exact .inl rfl
/-- bytes that begin otherwise are no copy -/
theorem cp_short {b : List UInt8} {dict e i d : Nat} (h2 : 2 ≤ cpN b dict e i d) : d < i ∧ d < dict ∧ b.getD i 0 = b.getD (i - 1 - d) 0 ∧ b.getD (i + 1) 0 = b.getD (i - 1 - d + 1) 0 := by
  unfold cpN at h2
  split at h2
  · rename_i h
    have h0 := eqN_same b (d + 1) (min 273 (e - i)) i 0 (by omega)
    have h1 := eqN_same b (d + 1) (min 273 (e - i)) i 1 (by omega)
    rw [show i + 0 = i by omega] at h0
    refine ⟨h.1, h.2, ?_, ?_⟩
    · rw [h0]; exact congrArg (fun k => b.getD k 0) (show i - (d + 1) = i - 1 - d by omega)
    · rw [h1]; exact congrArg (fun k => b.getD k 0) (show i + 1 - (d + 1) = i - 1 - d + 1 by omega)
  · omega
/-- a copy of so many bytes has the last of them -/
theorem cp_last {b : List UInt8} {dict e i d l : Nat} (h1 : 1 ≤ l) (h : l ≤ cpN b dict e i d) : b.getD (i + l - 1) 0 = b.getD (i - 1 - d + l - 1) 0 := by
  unfold cpN at h
  split at h
  · rename_i hd
    have h0 := eqN_same b (d + 1) (min 273 (e - i)) i (l - 1) (by omega)
    rw [show i + (l - 1) = i + l - 1 by omega] at h0
    rw [h0]; exact congrArg (fun k => b.getD k 0) (show i + l - 1 - (d + 1) = i - 1 - d + l - 1 by omega)
  · omega
end Go.Proofs.Ytjganponepafpaa
