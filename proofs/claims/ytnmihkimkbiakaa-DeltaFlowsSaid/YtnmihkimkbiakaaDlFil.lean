/-
  A filter over a feed.
-/
import Derived.Test.YtnmihkimkbiakaaDlAwk
import Derived.Test.YtnmihkimkbiakaaSrcFeed
namespace Go.Proofs.Ytnmihkimkbiakaa
set_option linter.unusedVariables false
set_option linter.unusedSimpArgs false
open Go.RowKit

def fdV (f : Nat) : Value := .iface 37 (.pointer (some ⟨f, 0, none⟩))
/-- the filter at block g over the feed at block f; k bytes were told -/
structure Fil (w : World) (g f lo d : Nat) (bs P : List UInt8) (k : Nat) (cs : Array Value) : Prop where
  b : Blk w g 51 cs
  c0 : cs[0]? = some (fdV f)
  ring : RingC cs 1 d P k
  feed : Feed w f lo bs k
  lt : f < g
theorem feed_next (a : Addr) (w : World) : (method 174 37 (.pointer (some a)) "Next").run Try.prog w = .ok (41, .pointer (some a)) w := by kernel_rfl
theorem feed_ne (a : Addr) (w : World) : (binOp .eql 49 (.iface 37 (.pointer (some a))) .nilIface).run Try.prog w = .ok (.bool false) w := by kernel_rfl
theorem feed_nil (w : World) : (binOp .eql 49 .nilIface .nilIface).run Try.prog w = .ok (.bool true) w := by kernel_rfl
def own2 (f g : Nat) : Nat → Prop := fun i => i = f ∨ i = g
section
variable {w : World} {g f lo d k : Nat} {bs P : List UInt8} {cs : Array Value}
set_option maxRecDepth 100000 in
set_option maxHeartbeats 2000000 in
theorem filNext_more (h : Fil w g f lo d bs P k cs) (hk : k < bs.length) (hP : P = decN d bs) :
    Calls Try.prog 19 #[.pointer (some ⟨g, 0, none⟩)] w fun e w' => e = .returned (.tuple #[.int .u8 ((P.getD k 0).toNat : Int), .bool true]) ∧ ∃ cs', Fil w' g f lo d bs P (k + 1) cs' ∧ Only (own2 f g) w w' := by
  have k0 : w.cell? ⟨g, 0, none⟩ = some (.iface 37 (.pointer (some ⟨f, 0, none⟩))) := (h.b.cell 0).trans h.c0
  have K := Lib.hid (feed_more h.feed hk)
  have hpl : P.length = bs.length := by rw [hP, decN_len]
  have hy : P.getD k 0 = bs.getD k 0 + aheadN P d k := by rw [hP]; exact decN_get h.ring.d0 hk
  have hm := feed_next
  have hne := feed_ne
  have H := Lib.hid h
  have HY := Lib.hid (And.intro hy (show k < P.length by omega))
  clear h hk hP hpl hy
  go_enter Try.func19, Try.ntmps19
  go_wp2_with fail
  refine K.out.mono ?_
  rintro e w1 ⟨rfl, hF1, hg1⟩
  have hB1 := H.out.b.grown hg1 (by intro h; injection h with h; have := H.out.lt; omega)
  have KD := Lib.hid (ddecode_any (o := 1) hB1 H.out.ring HY.out.2 (by decide) HY.out.1)
  have HO := Lib.hid (Only.of_grown hg1 (show own2 f g f from .inl rfl))
  have HF := Lib.hid hF1
  clear hF1 hg1 hB1 K k0
  go_wp2_with fail
  refine KD.out.mono ?_
  rintro e w2 ⟨rfl, cs', h1, h2, h3, h4⟩
  have HX := Lib.hid (show Fil w2 g f lo d bs P (k + 1) cs' from ⟨h1, (h3 0 (by decide)).trans H.out.c0, h2, HF.out.only h4 (fun i hi => by have := H.out.lt; omega), H.out.lt⟩)
  have HO2 := Lib.hid (HO.out.trans (h4.mono (fun i hi => .inr hi)))
  clear h1 h2 h3 h4 HO HF
  go_wp2_with fail
  go_ret2
  exact ⟨rfl, cs', HX.out, HO2.out⟩
set_option maxRecDepth 100000 in
set_option maxHeartbeats 2000000 in
theorem filNext_end (h : Fil w g f lo d bs P bs.length cs) :
    Calls Try.prog 19 #[.pointer (some ⟨g, 0, none⟩)] w fun e w' => e = .returned (.tuple #[.int .u8 0, .bool false]) ∧ Blk w' g 51 (cs.setIfInBounds 0 .nilIface) ∧ Only (own2 f g) w w' := by
  have k0 : w.cell? ⟨g, 0, none⟩ = some (.iface 37 (.pointer (some ⟨f, 0, none⟩))) := (h.b.cell 0).trans h.c0
  have f0 : w.frozen? ⟨g, 0, none⟩ = false := h.b.free 0
  have K := Lib.hid (feed_end h.feed)
  have hm := feed_next
  have hne := feed_ne
  have H := Lib.hid h
  clear h
  go_enter Try.func19, Try.ntmps19
  go_wp2_with fail
  refine K.out.mono ?_
  rintro e w1 ⟨rfl, n, rfl⟩
  go_wp2_with fail
  go_ret2
  exact ⟨rfl, (H.out.b.drewN n).put 0 _, ((Only.refl (own2 f g) w).drewN n).setCell (.inl (.inr rfl)) _⟩
set_option maxRecDepth 100000 in
set_option maxHeartbeats 2000000 in
theorem filNext_nil (hB : Blk w g 51 cs) (h0 : cs[0]? = some .nilIface) :
    Calls Try.prog 19 #[.pointer (some ⟨g, 0, none⟩)] w fun e w' => e = .returned (.tuple #[.int .u8 0, .bool false]) ∧ w = w' := by
  have k0 : w.cell? ⟨g, 0, none⟩ = some .nilIface := (hB.cell 0).trans h0
  have hne := feed_nil
  clear hB h0
  go_enter Try.func19, Try.ntmps19
  go_wp2_with fail
  go_ret2
  exact ⟨rfl, rfl⟩
end
theorem fold_put (i : Nat) : ∀ (R : List Value) (C : Array Value) (s : Nat), 1 + s + R.length ≤ C.size → (List.foldl (fun (cs : Array Value) (x : Value × Nat) => cs.setIfInBounds (1 + x.snd) x.fst) C (R.zipIdx s))[i]? = if 1 + s ≤ i ∧ i < 1 + s + R.length then R[i - 1 - s]? else C[i]?
  | [], C, s, _ => by
    rw [List.zipIdx_nil, List.foldl_nil, if_neg]
    rintro ⟨h1, h2⟩
    have : i < 1 + s + 0 := h2
    omega
  | v :: R, C, s, hz => by
    have hl : (v :: R).length = R.length + 1 := rfl
    rw [hl] at hz ⊢
    rw [List.zipIdx_cons, List.foldl_cons, fold_put i R _ (s + 1) (by rw [Array.size_setIfInBounds]; omega), Array.getElem?_setIfInBounds]
    by_cases h0 : 1 + s = i
    · rw [if_neg (by omega), if_pos h0, if_pos (by omega), if_pos (by omega), show i - 1 - s = 0 by omega]
      rfl
    · rw [if_neg h0]
      by_cases h1 : 1 + s ≤ i ∧ i < 1 + s + (R.length + 1)
      · rw [if_pos (by omega), if_pos h1, show i - 1 - s = (i - 1 - (s + 1)) + 1 by omega, List.getElem?_cons_succ]
      · rw [if_neg (by omega), if_neg h1]
def zFil : Array Value := (Value.nilIface :: (List.replicate 256 (Value.int .u8 0) ++ [Value.int .i64 0, Value.int .i64 0])).toArray
theorem zFil_size : zFil.size = 259 := by decide +kernel
theorem fil_zero (W : World) : (zeroValue 51).run Try.prog W = .ok (.agg zFil) W := by kernel_rfl
def filA (v : Value) (d : Int) : Array Value := Array.foldl (fun cs x => cs.setIfInBounds (1 + x.snd) x.fst) (zFil.setIfInBounds 0 v) (zRing.setIfInBounds 256 (.int .i64 d)).zipIdx 0 258
theorem filA_get (v : Value) (d : Int) (i : Nat) : (filA v d)[i]? = if 1 ≤ i ∧ i < 259 then (zRing.setIfInBounds 256 (.int .i64 d))[i - 1]? else (zFil.setIfInBounds 0 v)[i]? := by
  have hs : (zRing.setIfInBounds 256 (.int .i64 d)).zipIdx.size = 258 := by rw [Array.size_zipIdx, Array.size_setIfInBounds, zRing_size]
  have hl : (zRing.setIfInBounds 256 (.int .i64 d)).toList.length = 258 := by rw [Array.length_toList, Array.size_setIfInBounds, zRing_size]
  unfold filA
  have h := fold_put i (zRing.setIfInBounds 256 (.int .i64 d)).toList (zFil.setIfInBounds 0 v) 0 (by rw [hl, Array.size_setIfInBounds, zFil_size]; decide)
  rw [hl] at h
  rw [← Array.toList_zipIdx, Array.foldl_toList, hs] at h
  rw [h]
  simp only [Nat.add_zero, Nat.sub_zero, Array.getElem?_toList]
theorem filA_new {v : Value} {d : Nat} {P : List UInt8} (d0 : 0 < d) (d1 : d ≤ 256) : RingC (filA v (d : Int)) 1 d P 0 := by
  have hr := ring_new (d := d) (P := P) d0 d1
  have hz : 259 ≤ (filA v (d : Int)).size := by
    have h1 := filA_get v (d : Int) 258
    rw [if_pos (by decide)] at h1
    have h4 := hr.at_
    rw [show 0 + 257 = 258 - 1 by decide, ← h1] at h4
    exact (Array.getElem?_eq_some_iff.1 h4).1
  have hg : ∀ j, j < 258 → (filA v (d : Int))[1 + j]? = (zRing.setIfInBounds 256 (.int .i64 (d : Int)))[0 + j]? := fun j hj => by
    rw [filA_get, if_pos (by omega), show 1 + j - 1 = 0 + j by omega]
  refine ⟨d0, d1, hz, (hg 256 (by decide)).trans hr.dist, (hg 257 (by decide)).trans hr.at_, fun i hi => ?_⟩
  have hm := Nat.mod_lt (0 + i) d0
  exact (hg _ (by omega)).trans (hr.last i hi)
theorem filA_zero (v : Value) (d : Int) : (filA v d)[0]? = some v := by
  rw [filA_get, if_neg (by decide), Array.getElem?_setIfInBounds, if_pos rfl, if_pos (by rw [zFil_size]; decide)]
set_option maxRecDepth 100000 in
set_option maxHeartbeats 2000000 in
theorem dnew_any {w : World} {d f : Nat} (hd : mayD (d : Int) = true) :
    Calls Try.prog 17 #[fdV f, .int .i64 (d : Int)] w fun e w' => e = .returned (.tuple #[.pointer (some ⟨w.heap.size, 0, none⟩), .int .i64 0]) ∧ ∃ cs, Blk w' w.heap.size 51 cs ∧ cs[0]? = some (fdV f) ∧ (∀ P, RingC cs 1 d P 0) ∧ Below w.heap.size w w' := by
  have KM := Lib.hid (dmay_any (d : Int) w)
  rw [hd] at KM
  have hdd : 1 ≤ (d : Int) ∧ (d : Int) ≤ 256 := of_decide_eq_true hd
  have hz := ring_zero
  have hzs := zRing_size
  have hy := fil_zero
  have hys := zFil_size
  have hyn : ¬ zFil = #[] := fun h => by rw [h] at hys; exact absurd hys (by decide)
  have H0 := Lib.hid (And.intro (filA_zero (fdV f) (d : Int)) (fun P => filA_new (v := fdV f) (d := d) (P := P) (by omega) (by omega)))
  unfold filA at H0
  generalize zRing = Z at *
  generalize zFil = Y at *
  unfold fdV at *
  clear hdd hd
  go_enter Try.func17, Try.ntmps17
  go_wp2_with fail
  refine KM.out.mono ?_
  rintro e w1 ⟨rfl, rfl⟩
  go_wp2_with fail
  go_ret2
  exact ⟨rfl, _, Blk.fresh _ _ _, H0.out.1, H0.out.2, (Below.refl _ _).alloc (Nat.le_refl _) _⟩
set_option maxHeartbeats 2000000 in
theorem dnewBad_any {w : World} {d : Int} {v : Value} (hd : mayD d = false) :
    Calls Try.prog 17 #[v, .int .i64 d] w fun e w' => e = .returned (.tuple #[.pointer none, .int .i64 11]) ∧ w = w' := by
  have KM := Lib.hid (dmay_any d w)
  rw [hd] at KM
  go_enter Try.func17, Try.ntmps17
  go_wp2_with fail
  refine KM.out.mono ?_
  rintro e w1 ⟨rfl, rfl⟩
  go_wp2_with fail
  go_ret2
  exact ⟨rfl, rfl⟩
end Go.Proofs.Ytnmihkimkbiakaa
