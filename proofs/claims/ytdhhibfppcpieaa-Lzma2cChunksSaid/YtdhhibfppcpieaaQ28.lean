/-
  CkAwk, CkWake, LzSet, CkRef: put together.
-/
import Derived.Test.YtdhhibfppcpieaaQ18
import Derived.Test.YtdhhibfppcpieaaQ27
import Derived.Test.YtdhhibfppcpieaaQ01
import Derived.Lib.SlBytesConst
import Derived.Test.YtdhhibfppcpieaaQ05
import Derived.Deep.Cut
set_option linter.unusedVariables false
set_option linter.unusedSimpArgs false
/-
  What LZMA2's coder puts, piece by piece: numbers; short pieces are plain.
-/
namespace Go.Proofs.Ytdhhibfppcpieaa
open Go.RowKit

/-- a piece's chunk -/
def chunkN (b : List UInt8) (p0 : UInt8) (dict at_ : Nat) (xs : List UInt8) (k : Ckn) : List UInt8 :=
  if (strS b dict (min at_ b.length) (min (at_ + xs.length) b.length) k.how k.s).2.x.l < xs.length then
    packedB k.how p0 xs.length (strB (strS b dict (min at_ b.length) (min (at_ + xs.length) b.length) k.how k.s))
  else plainB k.how xs
theorem piece_out (b : List UInt8) (p0 : UInt8) (dict at_ : Nat) (xs : List UInt8) (k : Ckn) : (pieceN b p0 dict at_ xs k).out = k.out ++ chunkN b p0 dict at_ xs k := by
  unfold pieceN chunkN
  split <;> rfl
theorem piece_how (b : List UInt8) (p0 : UInt8) (dict at_ : Nat) (xs : List UInt8) (k : Ckn) (h : k.how ≤ 3) : (pieceN b p0 dict at_ xs k).how ≤ 2 := by
  unfold pieceN
  split
  · exact Nat.zero_le _
  · show nextH k.how ≤ 2
    unfold nextH
    split
    · omega
    · split <;> omega

section
variable {b : List UInt8} {lc lp pb dict p : Nat} {p0 : UInt8}
theorem str_five {k : Nat} {a : Nat × Ckn} (h : Ckw b lc lp pb dict p k a) (hn : b.length ≤ 1000000) (xs : List UInt8) :
    5 ≤ (strS b dict (min a.1 b.length) (min (a.1 + xs.length) b.length) a.2.how a.2.s).2.x.l :=
  (str_all (h.cmd.pre (how := a.2.how)) (T := min (a.1 + xs.length) b.length) (by omega) (by omega) hn _ rfl).2.2.2.1
theorem piece_short {k : Nat} {a : Nat × Ckn} (h : Ckw b lc lp pb dict p k a) (hn : b.length ≤ 1000000) {xs : List UInt8} (hx : xs.length ≤ 5) :
    (pieceN b p0 dict a.1 xs a.2).how = nextH a.2.how ∧ (pieceN b p0 dict a.1 xs a.2).out = a.2.out ++ plainB a.2.how xs := by
  have := str_five h hn xs
  unfold pieceN
  rw [if_neg (by omega)]
  exact ⟨rfl, rfl⟩
theorem pack_nil : packN [] lc lp pb dict 5 = [0] := rfl
theorem pack_ab : packN [97, 98] 3 0 2 4096 1 = [1, 0, 0, 97, 2, 0, 0, 98, 0] := by
  have hs : SetOk 3 0 2 4096 := ⟨by decide, by decide, by decide, by decide, by decide⟩
  have h0 := ckw_fold (b := [97, 98]) (p := 1) (p0 := headB 3 0 2) hs (by decide) []
  have h1 := ckw_fold (b := [97, 98]) (p := 1) (p0 := headB 3 0 2) hs (by decide) [0]
  obtain ⟨a1, a2⟩ := piece_short (p0 := headB 3 0 2) h0 (by decide) (xs := cutB [97, 98] 1 0) (by decide)
  obtain ⟨b1, b2⟩ := piece_short (p0 := headB 3 0 2) h1 (by decide) (xs := cutB [97, 98] 1 1) (by decide)
  have e0 : foldQ [97, 98] (headB 3 0 2) 4096 1 (freshS 3 0 2 4096) [0] = stepQ [97, 98] (headB 3 0 2) 4096 1 (foldQ [97, 98] (headB 3 0 2) 4096 1 (freshS 3 0 2 4096) []) 0 := rfl
  have f1 : (foldQ [97, 98] (headB 3 0 2) 4096 1 (freshS 3 0 2 4096) [0]).2.out = [1, 0, 0, 97] := by
    rw [e0]
    exact a2
  have f2 : (foldQ [97, 98] (headB 3 0 2) 4096 1 (freshS 3 0 2 4096) [0]).2.how = 2 := by
    rw [e0]
    exact a1
  have f3 : (foldQ [97, 98] (headB 3 0 2) 4096 1 (freshS 3 0 2 4096) [0, 1]).2.out = [1, 0, 0, 97] ++ plainB 2 [98] := by
    have : (foldQ [97, 98] (headB 3 0 2) 4096 1 (freshS 3 0 2 4096) [0, 1]).2.out = (pieceN [97, 98] (headB 3 0 2) 4096 (foldQ [97, 98] (headB 3 0 2) 4096 1 (freshS 3 0 2 4096) [0]).1 (cutB [97, 98] 1 1) (foldQ [97, 98] (headB 3 0 2) 4096 1 (freshS 3 0 2 4096) [0]).2).out := rfl
    rw [this, b2, f1, f2]
    rfl
  show (foldQ [97, 98] (headB 3 0 2) 4096 1 (freshS 3 0 2 4096) [0, 1]).2.out ++ [0] = _
  rw [f3]
  rfl

/-- what was told behind the first j pieces -/
def outN (b : List UInt8) (lc lp pb dict p j : Nat) : List UInt8 := (foldQ b (headB lc lp pb) dict p (freshS lc lp pb dict) (List.range j)).2.out
/-- the chunk of piece number j -/
def chN (b : List UInt8) (lc lp pb dict p j : Nat) : List UInt8 :=
  chunkN b (headB lc lp pb) dict (foldQ b (headB lc lp pb) dict p (freshS lc lp pb dict) (List.range j)).1 (cutB b p j) (foldQ b (headB lc lp pb) dict p (freshS lc lp pb dict) (List.range j)).2
theorem outN_succ (j : Nat) : outN b lc lp pb dict p (j + 1) = outN b lc lp pb dict p j ++ chN b lc lp pb dict p j := by
  unfold outN chN
  rw [List.range_succ, foldQ_snoc]
  exact piece_out _ _ _ _ _ _
theorem outN_pre (j : Nat) : ∀ d, ∃ rest, outN b lc lp pb dict p (j + d) = outN b lc lp pb dict p j ++ rest
  | 0 => ⟨[], by simp⟩
  | d + 1 => by
    obtain ⟨r, h⟩ := outN_pre j d
    exact ⟨r ++ chN b lc lp pb dict p (j + d), by rw [show j + (d + 1) = (j + d) + 1 by omega, outN_succ, h, List.append_assoc]⟩
theorem pack_cut {j : Nat} (hj : j < manyN b.length p) : ∃ rest, packN b lc lp pb dict p = outN b lc lp pb dict p j ++ (chN b lc lp pb dict p j ++ (rest ++ [0])) := by
  obtain ⟨r, h⟩ := outN_pre (b := b) (lc := lc) (lp := lp) (pb := pb) (dict := dict) (p := p) (j + 1) (manyN b.length p - (j + 1))
  refine ⟨r, ?_⟩
  rw [show j + 1 + (manyN b.length p - (j + 1)) = manyN b.length p by omega, outN_succ] at h
  show outN b lc lp pb dict p (manyN b.length p) ++ [0] = _
  rw [h]
  simp only [List.append_assoc]
theorem fold_how (hs : SetOk lc lp pb dict) (hn : b.length ≤ 1000000) (j : Nat) : (foldQ b (headB lc lp pb) dict p (freshS lc lp pb dict) (List.range (j + 1))).2.how ≤ 2 := by
  rw [List.range_succ, foldQ_snoc]
  exact piece_how _ _ _ _ _ _ (ckw_fold hs hn _).how
/-- what a chunk is: its first bytes, its length -/
structure ChIs (ch : List UInt8) (j n : Nat) (k3 k4 : Nat) : Prop where
  count : 256 * (ch.getD 1 0).toNat + (ch.getD 2 0).toNat + 1 = n
  kind : ((ch.getD 0 0).toNat = 1 ∧ j = 0 ∧ ch.length = 3 + n) ∨ ((ch.getD 0 0).toNat = 2 ∧ j ≠ 0 ∧ ch.length = 3 + n) ∨
    (((ch.getD 0 0).toNat = 224 ∧ j = 0 ∧ ch.length = 6 + 256 * k3 + k4 + 1) ∨ ((ch.getD 0 0).toNat = 192 ∧ j ≠ 0 ∧ ch.length = 6 + 256 * k3 + k4 + 1) ∨ (((ch.getD 0 0).toNat = 128 ∨ (ch.getD 0 0).toNat = 160) ∧ j ≠ 0 ∧ ch.length = 5 + 256 * k3 + k4 + 1)) ∧ (ch.getD 3 0).toNat = k3 ∧ (ch.getD 4 0).toNat = k4
theorem ch_is (hs : SetOk lc lp pb dict) (hn : b.length ≤ 1000000) (hp : 1 ≤ p) (hp2 : p ≤ 65536) {j : Nat} (hj : j < manyN b.length p) :
    ∃ k3 k4, k3 < 256 ∧ k4 < 256 ∧ ChIs (chN b lc lp pb dict p j) j (min p (b.length - j * p)) k3 k4 := by
  have hj2 : j * p < b.length := (many_lt hp).1 hj
  obtain ⟨xs, hxs⟩ : ∃ xs, xs = cutB b p j := ⟨_, rfl⟩
  obtain ⟨n, hnn⟩ : ∃ n, n = min p (b.length - j * p) := ⟨_, rfl⟩
  have hx : xs.length = n := by rw [hxs, cutB_len, hnn]
  rw [← hnn]
  unfold chN
  rw [← hxs]
  have hw := ckw_fold (b := b) (p := p) (p0 := headB lc lp pb) hs hn (List.range j)
  have hhow : ((foldQ b (headB lc lp pb) dict p (freshS lc lp pb dict) (List.range j)).2.how = 3 ∧ j = 0) ∨ ((foldQ b (headB lc lp pb) dict p (freshS lc lp pb dict) (List.range j)).2.how ≤ 2 ∧ j ≠ 0) := by
    match j with
    | 0 => exact .inl ⟨rfl, rfl⟩
    | j + 1 => exact .inr ⟨fold_how hs hn j, by omega⟩
  generalize foldQ b (headB lc lp pb) dict p (freshS lc lp pb dict) (List.range j) = a at *
  have hfive := str_five hw hn xs
  unfold chunkN
  generalize hst : strS b dict (min a.1 b.length) (min (a.1 + xs.length) b.length) a.2.how a.2.s = s2 at *
  have t1 : ∀ m : Nat, m < 256 → (UInt8.ofNat m).toNat = m := fun m hm => by rw [UInt8.toNat_ofNat']; omega
  rw [hx]
  by_cases hlt : s2.2.x.l < n
  · rw [if_pos hlt]
    have hsl : (strB s2).length = s2.2.x.l := beB_len _ _
    refine ⟨(s2.2.x.l - 1) / 256, (s2.2.x.l - 1) % 256, by omega, by omega, ?_, ?_⟩
    · show 256 * (UInt8.ofNat ((n - 1) / 256)).toNat + (UInt8.ofNat ((n - 1) % 256)).toNat + 1 = n
      rw [t1 _ (by omega), t1 _ (by omega)]
      omega
    · have e3 : ((packedB a.2.how (headB lc lp pb) n (strB s2)).getD 3 0).toNat = (s2.2.x.l - 1) / 256 := by
        show (UInt8.ofNat (((strB s2).length - 1) / 256)).toNat = _
        rw [hsl, t1 _ (by omega)]
      have e4 : ((packedB a.2.how (headB lc lp pb) n (strB s2)).getD 4 0).toNat = (s2.2.x.l - 1) % 256 := by
        show (UInt8.ofNat (((strB s2).length - 1) % 256)).toNat = _
        rw [hsl, t1 _ (by omega)]
      have e0 : ((packedB a.2.how (headB lc lp pb) n (strB s2)).getD 0 0).toNat = 128 + 32 * a.2.how := by
        show (UInt8.ofNat (128 + 32 * a.2.how)).toNat = _
        rw [t1 _ (by rcases hhow with h | h <;> omega)]
      have el : (packedB a.2.how (headB lc lp pb) n (strB s2)).length = (if 2 ≤ a.2.how then 6 else 5) + s2.2.x.l := by
        unfold packedB cntB
        split
        · simp [hsl]; omega
        · simp [hsl]; omega
      refine .inr (.inr ⟨?_, e3, e4⟩)
      rw [e0, el]
      rcases hhow with ⟨h, h'⟩ | ⟨h, h'⟩
      · rw [h, if_pos (by decide)]
        exact .inl ⟨rfl, h', by omega⟩
      · by_cases h2 : a.2.how = 2
        · rw [h2, if_pos (by decide)]
          exact .inr (.inl ⟨rfl, h', by omega⟩)
        · rw [if_neg (by omega)]
          exact .inr (.inr ⟨by omega, h', by omega⟩)
  · rw [if_neg hlt]
    refine ⟨0, 0, by decide, by decide, ?_, ?_⟩
    · show 256 * (UInt8.ofNat ((xs.length - 1) / 256)).toNat + (UInt8.ofNat ((xs.length - 1) % 256)).toNat + 1 = n
      rw [t1 _ (by omega), t1 _ (by omega)]
      omega
    · have el : (plainB a.2.how xs).length = 3 + n := by
        unfold plainB cntB
        simp
        omega
      have e0 : ((plainB a.2.how xs).getD 0 0).toNat = if a.2.how = 3 then 1 else 2 := by
        show (if a.2.how = 3 then (1 : UInt8) else 2).toNat = _
        split <;> rfl
      rw [e0, el]
      rcases hhow with ⟨h, h'⟩ | ⟨h, h'⟩
      · rw [if_pos h]
        exact .inl ⟨rfl, h', rfl⟩
      · rw [if_neg (by omega)]
        exact .inr (.inl ⟨rfl, h', rfl⟩)
end
end Go.Proofs.Ytdhhibfppcpieaa

/-
  The laws' beginning.
-/
namespace Go.Proofs.Ytdhhibfppcpieaa
open Go.RowKit

theorem sl_mark2 (w : World) (e : TypeId) (cs : Array Value) (fr : Nat × Nat) : Sl (w.alloc (.cells cs e fr)) (some ⟨w.heap.size, 0, none⟩) cs.size cs.toList :=
  ⟨by simp, fun _ => ⟨w.heap.size, 0, rfl, by simp, fun j _ => by rw [Nat.zero_add, cell_of_row _ _ j cs e fr (heap_alloc_new w _)]; simp⟩⟩
theorem conv_two (w : World) (a b : Int) : (convert 22 22 (.slice (some ⟨w.heap.size, 0, none⟩) 2 2)).run Try.prog (w.alloc (.cells #[.int .u8 a, .int .u8 b] 5)) = .ok (.slice (some ⟨w.heap.size, 0, none⟩) 2 2) (w.alloc (.cells #[.int .u8 a, .int .u8 b] 5 (2, 3))) :=
  Go.Lib.run_convert_bytes_const w 22 5 #[.int .u8 a, .int .u8 b] 2 2 Try.underlying22 Try.underlying5
theorem setOk_awk : SetOk 3 0 2 4096 := ⟨by decide, by decide, by decide, by decide, by decide⟩
theorem pack_one (W : World) : Calls Try.prog 12 #[.slice none 0 0, .agg #[.int .i64 3, .int .i64 0, .int .i64 2, .int .i64 4096], .int .i64 5] W fun e w' =>
    ∃ (R : Option Addr) (cl r : Nat), e = .returned (.tuple #[.slice R 1 cl, .int .u8 (r : Int), .int .i64 0]) ∧ Sl w' R 1 (bv [0]) ∧ Below W.heap.size W w' := by
  refine (kpack_any (w := W) (A := none) (n := 0) (c := 0) (p := 5) (b := []) (lc := 3) (lp := 0) (pb := 2) (dict := 4096) setOk_awk (by decide) (by decide) (by decide) Sl.nil (by decide) (Nat.le_refl _) (by unfold maxLen; decide)).mono ?_
  rintro e w' ⟨R, cl, r, rfl, hS, _, _, _, hb⟩
  rw [pack_nil] at hS ⊢
  exact ⟨R, cl, r, rfl, hS, hb⟩
theorem pack_two (w : World) (W : World) (hb0 : Below (w.alloc (.cells #[.int .u8 97, .int .u8 98] 5 (2, 3))).heap.size (w.alloc (.cells #[.int .u8 97, .int .u8 98] 5 (2, 3))) W) : Calls Try.prog 12 #[.slice (some ⟨w.heap.size, 0, none⟩) 2 2, .agg #[.int .i64 3, .int .i64 0, .int .i64 2, .int .i64 4096], .int .i64 1] W fun e w' =>
    ∃ (R : Option Addr) (cl r : Nat), e = .returned (.tuple #[.slice R 9 cl, .int .u8 (r : Int), .int .i64 0]) ∧ Sl w' R 9 (bv [1, 0, 0, 97, 2, 0, 0, 98, 0]) ∧ Below W.heap.size W w' := by
  have hS : Sl W (some ⟨w.heap.size, 0, none⟩) 2 (bv [97, 98]) := (sl_mark2 w 5 #[.int .u8 97, .int .u8 98] (2, 3)).below hb0
  refine (kpack_any (w := W) (n := 2) (c := 2) (p := 1) (b := [97, 98]) (lc := 3) (lp := 0) (pb := 2) (dict := 4096) setOk_awk (by decide) (by decide) (by decide) hS (by decide) (Nat.le_refl _) (by unfold maxLen; decide)).mono ?_
  rintro e w' ⟨R, cl, r, rfl, hS, _, _, _, hb⟩
  rw [pack_ab] at hS ⊢
  exact ⟨R, cl, r, rfl, hS, hb⟩
set_option maxRecDepth 100000 in
set_option maxHeartbeats 8000000 in
theorem awake12_any (w : World) : Calls Try.prog 11 #[] w fun e w' => e = .returned (.bool true) ∧ Below w.heap.size w w' := by
  have HBK := Lib.hid (Blk.fresh w 39 #[.int .i64 3, .int .i64 0, .int .i64 2, .int .i64 4096])
  have HB1 := Lib.hid ((Below.refl w.heap.size w).alloc (Nat.le_refl _) (.cells #[.int .i64 3, .int .i64 0, .int .i64 2, .int .i64 4096] 39))
  have K1 := Lib.hid (fun W => pack_one W)
  go_enter Try.func11, Try.ntmps11
  go_wp2_with fail
  refine (K1.out _).mono ?_
  rintro x w2 ⟨R1, c1, r1, rfl, hs1, hb2⟩
  have hk2 := HBK.out.below hb2
  have HK2 := Lib.hid hk2
  have HS1 := Lib.hid hs1
  have HB2 := Lib.hid (below_gg HB1.out hb2 (Nat.le_refl _))
  clear hk2 hs1 hb2 K1 HB1 HBK
  have hcv := conv_two w2 97 98
  have hk3 := HK2.out.below ((Below.refl w2.heap.size w2).alloc (Nat.le_refl _) (.cells #[.int .u8 97, .int .u8 98] 5 (2, 3)))
  have d0 := hk3.cell 0
  have d1 := hk3.cell 1
  have d2 := hk3.cell 2
  have d3 := hk3.cell 3
  have HB3 := Lib.hid (HB2.out.alloc HB2.out.size (.cells #[.int .u8 97, .int .u8 98] 5 (2, 3)))
  have HS3 := Lib.hid (HS1.out.below ((Below.refl w2.heap.size w2).alloc (Nat.le_refl _) (.cells #[.int .u8 97, .int .u8 98] 5 (2, 3))))
  have K2 := Lib.hid (pack_two w2 _ (Below.refl _ _))
  clear hk3
  go_wp2_with fail
  refine K2.out.mono ?_
  rintro x w4 ⟨R2, c2, r2, rfl, hs2, hb4⟩
  have HS4 := Lib.hid (HS3.out.below hb4)
  have HT4 := Lib.hid hs2
  have HB4 := Lib.hid (below_gg HB3.out hb4 (Nat.le_refl _))
  clear hs2 hb4 K2 hcv d0 d1 d2 d3 HB3 HS3 HS1 HB2 HK2
  have KB1 := Lib.hid (show Calls Try.prog 10 #[.slice R1 1 c1, .slice (some ⟨w4.heap.size, 0, none⟩) 1 1] (w4.alloc (.cells #[.int .u8 0] 5)) (fun e w' => e = .returned (.bool true) ∧ ∃ d, (w4.alloc (.cells #[.int .u8 0] 5)).drewN d = w') from
    bytesSame_any (HS4.out.alloc _) (sl_b1 w4 0) (by decide))
  go_wp2_with fail
  refine KB1.out.mono ?_
  rintro x w5 ⟨rfl, d, rfl⟩
  have hb5 : Below w4.heap.size w4 ((w4.alloc (.cells #[.int .u8 0] 5)).drewN d) := below_drewN ((Below.refl _ w4).alloc (Nat.le_refl _) _) d
  have HT5 := Lib.hid (HT4.out.below hb5)
  have HB5 := Lib.hid (below_gg HB4.out hb5 (Nat.le_refl _))
  clear hb5 KB1 HS4 HT4 HB4
  generalize (w4.alloc (.cells #[.int .u8 0] 5)).drewN d = w6 at *
  have KB2 := Lib.hid (show Calls Try.prog 10 #[.slice R2 9 c2, .slice (some ⟨w6.heap.size, 0, none⟩) 9 9] (w6.alloc (.cells #[.int .u8 1, .int .u8 0, .int .u8 0, .int .u8 97, .int .u8 2, .int .u8 0, .int .u8 0, .int .u8 98, .int .u8 0] 5)) (fun e w' => e = .returned (.bool true) ∧ ∃ d, (w6.alloc (.cells #[.int .u8 1, .int .u8 0, .int .u8 0, .int .u8 97, .int .u8 2, .int .u8 0, .int .u8 0, .int .u8 98, .int .u8 0] 5)).drewN d = w') from
    bytesSame_any (HT5.out.alloc _) (sl_lit w6 5 (bv [1, 0, 0, 97, 2, 0, 0, 98, 0]).toArray (by decide)) (by decide))
  have HB6 := Lib.hid (HB5.out.alloc HB5.out.size (.cells #[.int .u8 1, .int .u8 0, .int .u8 0, .int .u8 97, .int .u8 2, .int .u8 0, .int .u8 0, .int .u8 98, .int .u8 0] 5))
  go_wp2_with fail
  refine KB2.out.mono ?_
  rintro x w7 ⟨rfl, d2, rfl⟩
  have HB7 := Lib.hid (below_drewN HB6.out d2)
  clear KB2 HB6 HB5 HT5
  go_wp2_with fail
  go_ret
  exact ⟨rfl, HB7.out⟩
end Go.Proofs.Ytdhhibfppcpieaa

/-
  The reference of LZMA: settings.
-/
namespace Go.Proofs.Ytdhhibfppcpieaa
open Go.RowKit

set_option maxHeartbeats 4000000 in
theorem may_any (a b c d : Int) (w : World) :
    Calls Try.prog 21 #[.agg #[.int .i64 a, .int .i64 b, .int .i64 c, .int .i64 d]] w fun x w' => x = .returned (.bool (maySet a b c d)) ∧ Below w.heap.size w w' := by
  have HB := Lib.hid ((Below.refl w.heap.size w).alloc (Nat.le_refl _) (.cells #[.int .i64 a, .int .i64 b, .int .i64 c, .int .i64 d] 39))
  obtain ⟨v, hv⟩ : ∃ v, v = maySet a b c d := ⟨_, rfl⟩
  rw [← hv]
  unfold maySet at hv
  by_cases h0 : 0 ≤ a
  · have g0 : a ≥ 0 := h0
    by_cases h1 : a ≤ 8
    · have g1 : a ≤ 8 := h1
      by_cases h2 : 0 ≤ b
      · have g2 : b ≥ 0 := h2
        by_cases h3 : b ≤ 4
        · have g3 : b ≤ 4 := h3
          by_cases h4 : 0 ≤ c
          · have g4 : c ≥ 0 := h4
            by_cases h5 : c ≤ 4
            · have g5 : c ≤ 4 := h5
              by_cases h6 : 4096 ≤ d
              · have g6 : d ≥ 4096 := h6
                by_cases h7 : d ≤ 4294967295
                · have g7 : d ≤ 4294967295 := h7
                  obtain rfl : v = true := by rw [hv]; simp; omega
                  clear hv
                  go_enter Try.func21, Try.ntmps21
                  go_wp2_with fail
                  go_ret
                  exact ⟨rfl, HB.out⟩
                · have g7 : ¬ d ≤ 4294967295 := h7
                  obtain rfl : v = false := by rw [hv]; simp; omega
                  clear hv
                  go_enter Try.func21, Try.ntmps21
                  go_upto_region 1 with fail
                  go_step
                  iterate 39 (with_reducible refine wpList_step (fun K hK => ?_); go_simp; (first | (with_reducible refine hK _ _ ?_) | (refine Eq.mpr (if_neg ?_) ?_; (· decide); with_reducible refine hK _ _ ?_)); clear hK K)
                  go_wp2_with fail
                  go_ret
                  exact ⟨rfl, HB.out⟩
              · have g6 : ¬ d ≥ 4096 := h6
                obtain rfl : v = false := by rw [hv]; simp; omega
                clear hv
                go_enter Try.func21, Try.ntmps21
                go_upto_region 1 with fail
                go_step
                iterate 39 (with_reducible refine wpList_step (fun K hK => ?_); go_simp; (first | (with_reducible refine hK _ _ ?_) | (refine Eq.mpr (if_neg ?_) ?_; (· decide); with_reducible refine hK _ _ ?_)); clear hK K)
                go_wp2_with fail
                go_ret
                exact ⟨rfl, HB.out⟩
            · have g5 : ¬ c ≤ 4 := h5
              obtain rfl : v = false := by rw [hv]; simp; omega
              clear hv
              go_enter Try.func21, Try.ntmps21
              go_upto_region 1 with fail
              go_step
              iterate 39 (with_reducible refine wpList_step (fun K hK => ?_); go_simp; (first | (with_reducible refine hK _ _ ?_) | (refine Eq.mpr (if_neg ?_) ?_; (· decide); with_reducible refine hK _ _ ?_)); clear hK K)
              go_wp2_with fail
              go_ret
              exact ⟨rfl, HB.out⟩
          · have g4 : ¬ c ≥ 0 := h4
            obtain rfl : v = false := by rw [hv]; simp; omega
            clear hv
            go_enter Try.func21, Try.ntmps21
            go_upto_region 1 with fail
            go_step
            iterate 39 (with_reducible refine wpList_step (fun K hK => ?_); go_simp; (first | (with_reducible refine hK _ _ ?_) | (refine Eq.mpr (if_neg ?_) ?_; (· decide); with_reducible refine hK _ _ ?_)); clear hK K)
            go_wp2_with fail
            go_ret
            exact ⟨rfl, HB.out⟩
        · have g3 : ¬ b ≤ 4 := h3
          obtain rfl : v = false := by rw [hv]; simp; omega
          clear hv
          go_enter Try.func21, Try.ntmps21
          go_upto_region 1 with fail
          go_step
          iterate 39 (with_reducible refine wpList_step (fun K hK => ?_); go_simp; (first | (with_reducible refine hK _ _ ?_) | (refine Eq.mpr (if_neg ?_) ?_; (· decide); with_reducible refine hK _ _ ?_)); clear hK K)
          go_wp2_with fail
          go_ret
          exact ⟨rfl, HB.out⟩
      · have g2 : ¬ b ≥ 0 := h2
        obtain rfl : v = false := by rw [hv]; simp; omega
        clear hv
        go_enter Try.func21, Try.ntmps21
        go_upto_region 1 with fail
        go_step
        iterate 39 (with_reducible refine wpList_step (fun K hK => ?_); go_simp; (first | (with_reducible refine hK _ _ ?_) | (refine Eq.mpr (if_neg ?_) ?_; (· decide); with_reducible refine hK _ _ ?_)); clear hK K)
        go_wp2_with fail
        go_ret
        exact ⟨rfl, HB.out⟩
    · have g1 : ¬ a ≤ 8 := h1
      obtain rfl : v = false := by rw [hv]; simp; omega
      clear hv
      go_enter Try.func21, Try.ntmps21
      go_upto_region 1 with fail
      go_step
      iterate 39 (with_reducible refine wpList_step (fun K hK => ?_); go_simp; (first | (with_reducible refine hK _ _ ?_) | (refine Eq.mpr (if_neg ?_) ?_; (· decide); with_reducible refine hK _ _ ?_)); clear hK K)
      go_wp2_with fail
      go_ret
      exact ⟨rfl, HB.out⟩
  · have g0 : ¬ a ≥ 0 := h0
    obtain rfl : v = false := by rw [hv]; simp; omega
    clear hv
    go_enter Try.func21, Try.ntmps21
    go_upto_region 1 with fail
    go_step
    iterate 39 (with_reducible refine wpList_step (fun K hK => ?_); go_simp; (first | (with_reducible refine hK _ _ ?_) | (refine Eq.mpr (if_neg ?_) ?_; (· decide); with_reducible refine hK _ _ ?_)); clear hK K)
    go_wp2_with fail
    go_ret
    exact ⟨rfl, HB.out⟩
end Go.Proofs.Ytdhhibfppcpieaa

/-
  The reference of LZMA2's coder: which settings may be.
-/
namespace Go.Proofs.Ytdhhibfppcpieaa
open Go.RowKit

set_option maxRecDepth 100000 in
set_option maxHeartbeats 4000000 in
theorem rmay12_any (a b c d : Int) (w : World) : Calls Try.prog 13 #[.agg #[.int .i64 a, .int .i64 b, .int .i64 c, .int .i64 d]] w fun e w' => e = .returned (.bool (may12 a b c d)) ∧ Below w.heap.size w w' := by
  obtain ⟨w1, hw1⟩ : ∃ w1, w1 = w.alloc (.cells #[.int .i64 a, .int .i64 b, .int .i64 c, .int .i64 d] 39) := ⟨_, rfl⟩
  have hb1 : Below w.heap.size w w1 := by rw [hw1]; exact (Below.refl _ _).alloc (Nat.le_refl _) _
  have HBk : Blk w1 w.heap.size 39 #[.int .i64 a, .int .i64 b, .int .i64 c, .int .i64 d] := by rw [hw1]; exact Blk.fresh w _ _
  have KM := may_any a b c d w1
  have c0 : w1.cell? ⟨w.heap.size, 0, none⟩ = some (.int .i64 a) := HBk.cell 0
  have c1 : w1.cell? ⟨w.heap.size, 1, none⟩ = some (.int .i64 b) := HBk.cell 1
  have c2 : w1.cell? ⟨w.heap.size, 2, none⟩ = some (.int .i64 c) := HBk.cell 2
  have c3 : w1.cell? ⟨w.heap.size, 3, none⟩ = some (.int .i64 d) := HBk.cell 3
  have HBK := Lib.hid HBk
  have HW1 := Lib.hid hw1
  have HB1 := Lib.hid hb1
  have hbw : w.heap.size < w1.heap.size := HBk.lt
  have HLT := Lib.hid hbw
  by_cases hm : maySet a b c d = true
  · obtain ⟨m1, m2, m3, m4, m5, m6, m7, m8⟩ := may_iff.1 hm
    have e1 : IntKind.i64.wrap (a + b) = a + b := IntWalk.i64_in _ (by omega)
    have hres : may12 a b c d = decide (a + b ≤ 4) := by unfold may12; rw [hm]; rfl
    rw [hm] at KM
    rw [hres]
    have KM := Lib.hid KM
    clear hw1 hb1 HBk hres hm m1 m2 m3 m4 m5 m6 m7 m8 hbw
    go_enter Try.func13, Try.ntmps13
    go_upto_region 1 with fail
    rw [← HW1.out]
    clear HW1
    generalize hB : w.heap.size = B at *
    go_wp2_with fail
    refine KM.out.mono ?_
    rintro e w2 ⟨rfl, hb2⟩
    have hk2 := HBK.out.below hb2
    have d0 : w2.cell? ⟨B, 0, none⟩ = some (.int .i64 a) := hk2.cell 0
    have d1 : w2.cell? ⟨B, 1, none⟩ = some (.int .i64 b) := hk2.cell 1
    have HB2 := Lib.hid (show Below B w w2 from HB1.out.trans ⟨hb2.os, hb2.tape, hb2.output, hb2.size, fun i hi => hb2.block i (by have := HLT.out; omega)⟩)
    clear hb2 hk2 KM c0 c1 c2 c3 HB1 HBK
    go_wp2_with fail
    go_ret
    exact ⟨rfl, by rw [hB]; exact HB2.out⟩
  · have h0 : maySet a b c d = false := by simpa using hm
    have hres : may12 a b c d = false := by unfold may12; rw [h0]; rfl
    rw [h0] at KM
    rw [hres]
    have KM := Lib.hid KM
    clear hw1 hb1 HBk hres hm h0 hbw
    go_enter Try.func13, Try.ntmps13
    go_upto_region 1 with fail
    rw [← HW1.out]
    clear HW1
    generalize hB : w.heap.size = B at *
    go_wp2_with fail
    refine KM.out.mono ?_
    rintro e w2 ⟨rfl, hb2⟩
    have HB2 := Lib.hid (show Below B w w2 from HB1.out.trans ⟨hb2.os, hb2.tape, hb2.output, hb2.size, fun i hi => hb2.block i (by have := HLT.out; omega)⟩)
    clear hb2 KM c0 c1 c2 c3 HB1 HBK
    go_wp2_with fail
    go_ret
    exact ⟨rfl, by rw [hB]; exact HB2.out⟩
end Go.Proofs.Ytdhhibfppcpieaa
