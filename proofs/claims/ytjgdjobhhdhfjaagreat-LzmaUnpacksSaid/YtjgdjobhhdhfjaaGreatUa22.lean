/-
  LzUnpacks, Open: put together.
-/
import Derived.Test.YtjgdjobhhdhfjaaGreatUa15
import Derived.Test.YtjgdjobhhdhfjaaGreatUa21
import Derived.Test.YtjgdjobhhdhfjaaGreatUa01
import Derived.ProofKit
import Derived.OpenShut
import Derived.ShutString
import Derived.ChangeOld
import Derived.Below
import Derived.Deep.Grids
set_option linter.unusedVariables false
set_option linter.unusedSimpArgs false
/-
  The law LzmaUnpacks, walked over what the program's Unpack owes.
-/
namespace Go.Proofs.YtjgdjobhhdhfjaaGreat
open Go.RowKit

theorem upG_len {size : Int} : ∀ (f : Nat) {z z' : Lzs} {t t' : Pm Dc}, upG size f z t = some (z', t') → z.out.length ≤ size.toNat → z'.out.length ≤ size.toNat
  | 0, z, z', t, t', h, hz => by
    injection h with h
    injection h with h1 h2
    rw [← h1]
    exact hz
  | f + 1, z, z', t, t', h, hz => by
    by_cases hlt : (z.out.length : Int) < size
    · by_cases hs : stopD size (packP decM z t pk0) = true
      · rw [upG_stop hlt hs] at h
        cases h
      · rw [upG_go hlt hs] at h
        have hs' : stopD size (packP decM z t pk0) = false := by simpa using hs
        have := stop_len hs'
        exact upG_len f h (by omega)
    · rw [upG_done hlt] at h
      injection h with h
      injection h with h1 h2
      rw [← h1]
      exact hz
theorem unpackN_len {bs ys : List UInt8} {lc lp pb dict : Nat} {size : Int} (h : unpackN bs lc lp pb dict size = some ys) : ys.length ≤ size.toNat := by
  unfold unpackN at h
  cases hu : upG size size.toNat (Lzs.start lc lp pb dict) ⟨List.replicate (probsN lc lp) 1024, started bs⟩ with
  | none => rw [hu] at h; cases h
  | some zt =>
    obtain ⟨z, t⟩ := zt
    rw [hu] at h
    have hl := upG_len _ hu (Nat.zero_le _)
    have h : finD z t = some ys := h
    unfold finD at h
    split at h
    · injection h with h
      rw [← h]
      exact hl
    · split at h
      · cases h
      · rename_i he
        injection h with h
        rw [← h]
        unfold endD at he
        have : (packP decM z t pk0).2.1.out.length = z.out.length := by
          revert he
          cases (packP decM z t pk0).2.1.ended <;> cases (packP decM z t pk0).2.1.bad <;> simp
          intro h _
          exact h
        omega
theorem res_len {bs : List UInt8} {a b c d size : Int} (h : size ≤ 100000) : ((lzRes bs a b c d size).getD []).length ≤ 100000 := by
  unfold lzRes
  split
  · cases hu : unpackN bs a.toNat b.toNat c.toNat d.toNat size with
    | none => exact Nat.zero_le _
    | some ys =>
      have := unpackN_len hu
      show ys.length ≤ _
      omega
  · exact Nat.zero_le _

set_option maxRecDepth 100000 in
set_option maxHeartbeats 8000000 in
theorem lzmaUnpacks_walk (C : UpCon) {A : Option Addr} {n c : Nat} {bs : List UInt8} {a b cc d size : Int} {w : World} (hS : Sl w A n (bv bs)) (hL : n ≤ maxLen) (hsz : -9223372036854775808 ≤ size) :
    Calls Tryz.prog 3 #[.slice A n c, .agg #[.int .i64 a, .int .i64 b, .int .i64 cc, .int .i64 d], .int .i64 size] w fun e w' => e = .returned (.bool true) ∧ Below w.heap.size w w' := by
  have hbl : n = bs.length := by rw [← bv_length]; exact hS.1.symm
  unfold maxLen at hL
  obtain ⟨w1, hw1⟩ : ∃ w1, w1 = w.alloc (.cells #[.int .i64 a, .int .i64 b, .int .i64 cc, .int .i64 d] 24) := ⟨_, rfl⟩
  have hb1 : Below w.heap.size w w1 := by rw [hw1]; exact (Below.refl _ _).alloc (Nat.le_refl _) _
  have HBk : Blk w1 w.heap.size 24 #[.int .i64 a, .int .i64 b, .int .i64 cc, .int .i64 d] := by rw [hw1]; exact Blk.fresh w _ _
  have HW1 := Lib.hid hw1
  have HB1 := Lib.hid hb1
  have HBK := Lib.hid HBk
  have HS1 := Lib.hid (hS.below hb1)
  have HN := Lib.hid hbl
  have HSZ := Lib.hid hsz
  have KA := Lib.hid (awake8_any C w1)
  have HC := Lib.hid C
  clear hw1 hb1 HBk hS hbl hsz
  go_enter Tryz.func3, Tryz.ntmps3
  go_upto_region 1 with fail
  rw [← HW1.out]
  clear HW1
  go_wp2_with fail
  refine KA.out.mono ?_
  rintro e w2 ⟨rfl, hb2⟩
  have HB2 := Lib.hid hb2
  have hk2 : Blk w2 w.heap.size 24 #[.int .i64 a, .int .i64 b, .int .i64 cc, .int .i64 d] := HBK.out.below hb2
  have o0 : w2.cell? ⟨w.heap.size, 0, none⟩ = some (.int .i64 a) := hk2.cell 0
  have o1 : w2.cell? ⟨w.heap.size, 1, none⟩ = some (.int .i64 b) := hk2.cell 1
  have o2 : w2.cell? ⟨w.heap.size, 2, none⟩ = some (.int .i64 cc) := hk2.cell 2
  have o3 : w2.cell? ⟨w.heap.size, 3, none⟩ = some (.int .i64 d) := hk2.cell 3
  have HE2 := Lib.hid (below_go HB1.out hb2 (Nat.le_refl _))
  clear hb2 hk2 KA hL
  by_cases hn : (n : Int) > 16384
  · go_wp2_with fail
    go_ret
    exact ⟨rfl, HE2.out⟩
  by_cases hs5 : size > 5000
  · go_wp2_with fail
    go_ret
    exact ⟨rfl, HE2.out⟩
  have KL := Lib.hid (light_any a b cc d w2)
  obtain ⟨lt, hlt⟩ : ∃ lt, lt = lightP a b cc d := ⟨_, rfl⟩
  rw [← hlt] at KL
  have HLT := Lib.hid hlt
  have HNS := Lib.hid (And.intro hn hs5)
  clear hlt
  cases lt with
  | false =>
    go_wp2_with fail
    refine KL.out.mono ?_
    rintro e w3 ⟨rfl, hb3⟩
    have HE3 := Lib.hid (below_go HE2.out hb3 (Nat.le_refl _))
    clear hb3 KL o0 o1 o2 o3
    go_wp2_with fail
    go_ret
    exact ⟨rfl, HE3.out⟩
  | true =>
    go_wp2_with fail
    refine KL.out.mono ?_
    rintro e w3 ⟨rfl, hb3⟩
    have HB3 := Lib.hid (below_go HB2.out hb3 (Nat.le_refl _))
    clear hb3 KL o0 o1 o2 o3 HE2 HB2 hn hs5
    go_wp2_with fail
    refine (much_any w3).mono ?_
    rintro e w4 ⟨gm, rfl, hM, hgm, hb4⟩
    have HB4 := Lib.hid (below_go HB3.out hb4 (Nat.le_refl _))
    have HM4 := Lib.hid hM
    have HGM := Lib.hid (show w1.heap.size ≤ gm ∧ gm < w4.heap.size from ⟨by have := HB3.out.size; omega, hM.lt⟩)
    have HS4 := Lib.hid (HS1.out.below HB4.out)
    obtain ⟨i, hi, hz0, hz1, hz2⟩ := info_parts info_u8
    clear hM hgm hb4 HB3
    go_wp2_with (at_builtin; refine wpList_app _ rfl (.tmp 28) (.tmp 29) 22 rfl w4.heap.size 5 i _ 1 Tryz.underlying22 hi hz0 hz1 hz2 rfl _ 0 [] rfl (own_empty w4 (Nat.le_refl _) _) A n c (bv bs) rfl (HS4.out.alloc _) (bv_one bs) (by have := HNS.out.1; omega) (by omega) (by simp) ?_)
    intro A5 c5 w5 ho5 hg5
    obtain ⟨hS5, _, _, hA5⟩ := own_facts ho5
    have HB5 := Lib.hid ((HB4.out.alloc HB4.out.size _).grown hg5 (by have := HB4.out.size; simp; omega) (fun k e => by have := HB4.out.size; simp [Value.ownBlock] at e; omega))
    have HM5 := Lib.hid ((HM4.out.alloc _).grown hg5 (by simp [Value.ownBlock]; have := HGM.out; omega))
    have HS5 := Lib.hid hS5
    have hk5 : Blk w5 w.heap.size 24 #[.int .i64 a, .int .i64 b, .int .i64 cc, .int .i64 d] := HBK.out.below HB5.out
    have o0 : w5.cell? ⟨w.heap.size, 0, none⟩ = some (.int .i64 a) := hk5.cell 0
    have o1 : w5.cell? ⟨w.heap.size, 1, none⟩ = some (.int .i64 b) := hk5.cell 1
    have o2 : w5.cell? ⟨w.heap.size, 2, none⟩ = some (.int .i64 cc) := hk5.cell 2
    have o3 : w5.cell? ⟨w.heap.size, 3, none⟩ = some (.int .i64 d) := hk5.cell 3
    have HOWN := Lib.hid (show 0 < n → ∀ q o, A5 = some ⟨q, o, none⟩ → q ≠ gm from fun _ q o e => by
      have := (hA5 q o e).1
      have := HGM.out
      omega)
    have hneq : 0 < n → ∀ q o, A5 = some ⟨q, o, none⟩ → q ≠ gm := fun _ q o e => by
      have := (hA5 q o e).1
      have := HGM.out
      omega
    have hlight : maySet a b cc d = true → a + b ≤ 6 := fun hm => by
      have := HLT.out
      unfold lightP at this
      rw [hm] at this
      exact of_decide_eq_true this.symm
    have KU := Lib.hid (HC.out.up (c := c5) (a := a) (b := b) (cc := cc) (d := d) (size := size) HN.out HS5.out hneq (by have := HNS.out.1; omega) HM5.out hlight (by have := HNS.out.2; omega) HSZ.out)
    clear ho5 hg5 hS5 hA5 hk5 hneq hlight HS4 HB4 HM4 hi hz0 hz1 hz2
    obtain ⟨rs, hrs⟩ : ∃ rs, rs = lzRes bs a b cc d size := ⟨_, rfl⟩
    obtain ⟨cd, hcd⟩ : ∃ cd, cd = lzCode bs a b cc d size := ⟨_, rfl⟩
    have hlen : (rs.getD []).length ≤ 100000 := by rw [hrs]; exact res_len (by have := HNS.out.2; omega)
    rw [← hrs, ← hcd] at KU
    have HRS := Lib.hid (And.intro hrs hcd)
    have HLEN := Lib.hid hlen
    clear hrs hcd hlen
    go_wp2_with fail
    refine KU.out.mono ?_
    rintro e w6 ⟨⟨t6, hM6, ht6⟩, hO6, X, cX, rfl, hSX⟩
    have HB6 := Lib.hid (HB5.out.trans (hO6.below HB5.out.size (by rintro i rfl; exact HGM.out.1)))
    have hk6 : Blk w6 w.heap.size 24 #[.int .i64 a, .int .i64 b, .int .i64 cc, .int .i64 d] := HBK.out.below HB6.out
    have q0 : w6.cell? ⟨w.heap.size, 0, none⟩ = some (.int .i64 a) := hk6.cell 0
    have q1 : w6.cell? ⟨w.heap.size, 1, none⟩ = some (.int .i64 b) := hk6.cell 1
    have q2 : w6.cell? ⟨w.heap.size, 2, none⟩ = some (.int .i64 cc) := hk6.cell 2
    have q3 : w6.cell? ⟨w.heap.size, 3, none⟩ = some (.int .i64 d) := hk6.cell 3
    have HSO6 := Lib.hid (HS5.out.only hO6 (fun h0 q o e => HOWN.out h0 q o e))
    have KR := zunpack_all (w := w6) (c := c) (a := a) (b := b) (cc := cc) (d := d) (size := size) HN.out (HS1.out.below HB6.out) (by have := HNS.out.1; omega) (by have := HNS.out.2; omega) HSZ.out
    rw [← HRS.out.1, ← HRS.out.2] at KR
    have KR := Lib.hid KR
    have HX := Lib.hid (And.intro hM6 (And.intro ht6 hSX))
    clear hM6 ht6 hO6 hSX hk6 KU HB5 HM5 HS5 o0 o1 o2 o3
    go_wp2_with fail
    refine KR.out.mono ?_
    rintro e w7 ⟨hb7, Y, cY, rfl, hSY⟩
    have HB7 := Lib.hid (below_go HB6.out hb7 (Nat.le_refl _))
    have KB1 := Lib.hid (bytesSame_any (ca := cX) (cb := cY) (HX.out.2.2.below hb7) hSY (by have := HLEN.out; omega))
    have HSO7 := Lib.hid (HSO6.out.below hb7)
    have HM7 := Lib.hid (HX.out.1.below hb7)
    have HE7 := Lib.hid (below_go HB1.out (HB7.out.mono (Nat.le_refl _)) (by have := HB1.out.size; omega))
    clear hb7 hSY KR q0 q1 q2 q3 HB6 HSO6
    generalize (rs.getD []).length = ny at *
    go_wp2_with fail
    refine KB1.out.mono ?_
    rintro e w8 ⟨rfl, k8, rfl⟩
    clear KB1
    have KB2 := Lib.hid (bytesSame_any (ca := c5) (cb := c) ((HSO7.out).drewN k8) ((HS1.out.below HB7.out).drewN k8) (by have := HNS.out.1; omega))
    go_wp2_with fail
    refine KB2.out.mono ?_
    rintro e w9 ⟨rfl, k9, rfl⟩
    clear KB2
    have KU9 := used_any (w := w7.drewN (k8 + k9)) (HM7.out.drewN (k8 + k9))
    unfold uArr at KU9
    have ht := HX.out.2.1
    rw [ht] at KU9
    have KU9' := Lib.hid KU9
    have hfd0 : ∀ (x0 x1 x2 x3 x4 x5 : Int) (w : World), (Instr.field 35 (.agg #[.int .i64 x0, .int .i64 x1, .int .i64 x2, .int .i64 x3, .int .i64 x4, .int .i64 x5]) 0).run Tryz.prog w = .ok (.int .i64 x0) w := fun _ _ _ _ _ _ _ => by kernel_rfl
    have HE9 := Lib.hid (below_drewN HE7.out (k8 + k9))
    clear ht KU9
    go_wp2_with fail
    refine KU9'.out.mono ?_
    rintro e w10 ⟨rfl, hb10⟩
    have HE10 := Lib.hid (below_go HE9.out hb10 (Nat.le_refl _))
    clear hb10 KU9' HE9
    go_wp2_with fail
    go_ret
    exact ⟨rfl, HE10.out⟩
end Go.Proofs.YtjgdjobhhdhfjaaGreat

/-
  What comes in, opened: bytes, flags and numbers of 64 bits, as slices that read as lists.
-/
namespace Go.Proofs.YtjgdjobhhdhfjaaGreat
open Go.ChangeShapes Go.WideShapes Go.ChangeAt Go.RowKit

theorem sl_row {w : World} {a : Addr} {len : Nat} {xs : List Value} (hl : len ≤ xs.length) (hcell : ∀ i, i < xs.length → w.cell? (a.add i) = xs[i]?) : Sl w (some a) len (xs.take len) := by
  refine ⟨by rw [List.length_take]; omega, fun hn => ?_⟩
  have h0 := hcell 0 (by omega)
  rw [List.getElem?_eq_getElem (by omega)] at h0
  have hs := World.cell?_spot h0
  have ha : a.add 0 = a := by simp [Addr.add]
  rw [ha] at hs h0
  have hb := World.block_lt_of_cell? _ _ h0
  obtain ⟨b, o, s⟩ := a
  simp only at hs hb
  subst hs
  refine ⟨b, o, rfl, hb, fun j hj => ?_⟩
  rw [List.getElem?_take_of_lt hj, ← hcell j (by omega)]
  unfold Addr.add
  by_cases h : j = 0
  · subst h; simp
  · simp [h]

/-- bytes out of numbers that are bytes -/
def toBytes (zs : List Int) : List UInt8 := zs.map fun z => UInt8.ofNat z.toNat
theorem bv_toBytes {zs : List Int} (h : ∀ n ∈ zs, (Lit.int .u8 n).wf = true) : bv (toBytes zs) = zs.map (Value.int .u8) := by
  induction zs with
  | nil => rfl
  | cons z r ih =>
    have hz := bounds_u8 (h z (by simp))
    have hr := ih (fun n hn => h n (by simp [hn]))
    simp only [bv, toBytes, List.map_cons, List.cons.injEq]
    refine ⟨?_, hr⟩
    congr 1
    rw [UInt8.toNat_ofNat']
    omega

section
variable {H : Type} {enc : TypeId × Value → H} {P : Program} {w : World} {held : Bool}
theorem open_bytes {t e : TypeId} (ht : P.underlying t = some (.slice e)) (he : P.underlying e = some (.int .u8)) (hc : P.cellsOf e = 1)
    {A : Option Addr} {len cap : Nat} {d : DataW H} {ps : List MemPlace} (h : DataW.Trod enc P w 0 (fun _ => true) held t (.slice A len cap) d ps) :
    ∃ bs : List UInt8, Sl w A len (bv bs) ∧ len ≤ cap ∧ cap ≤ maxLen := by
  obtain ⟨fuel, hf⟩ := h
  rcases open_ints ht he hc hf with ⟨hcs, _⟩ | ⟨x, l, c, zs, hcs, _, hl, hm, hz, _, hcell, hwz⟩
  · simp [Value.cells] at hcs
    obtain ⟨rfl, rfl, rfl⟩ := hcs
    exact ⟨[], Sl.nil, Nat.le_refl _, by unfold maxLen; omega⟩
  · simp [Value.cells] at hcs
    obtain ⟨rfl, rfl, rfl⟩ := hcs
    simp only [if_true] at hz
    refine ⟨toBytes (zs.take len), ?_, hl, hm⟩
    rw [bv_toBytes (fun n hn => hwz n (List.mem_of_mem_take hn)), List.map_take]
    refine sl_row (xs := zs.map (Value.int .u8)) (by rw [List.length_map, hz]; exact hl) (fun i hi => ?_)
    simp only [List.length_map] at hi
    rw [hcell i hi]
    simp [List.getD, hi]
theorem open_u64s {t e : TypeId} (ht : P.underlying t = some (.slice e)) (he : P.underlying e = some (.int .u64)) (hc : P.cellsOf e = 1)
    {A : Option Addr} {len cap : Nat} {d : DataW H} {ps : List MemPlace} (h : DataW.Trod enc P w 0 (fun _ => true) held t (.slice A len cap) d ps) :
    ∃ vs : List Nat, Sl w A len (vs.map fun (v : Nat) => Value.int .u64 (v : Int)) ∧ (∀ v ∈ vs, v < 18446744073709551616) ∧ len ≤ cap ∧ cap ≤ maxLen := by
  obtain ⟨fuel, hf⟩ := h
  rcases open_ints ht he hc hf with ⟨hcs, _⟩ | ⟨x, l, c, zs, hcs, _, hl, hm, hz, _, hcell, hwz⟩
  · simp [Value.cells] at hcs
    obtain ⟨rfl, rfl, rfl⟩ := hcs
    exact ⟨[], Sl.nil, by simp, Nat.le_refl _, by unfold maxLen; omega⟩
  · simp [Value.cells] at hcs
    obtain ⟨rfl, rfl, rfl⟩ := hcs
    simp only [if_true] at hz
    refine ⟨(zs.take len).map Int.toNat, ?_, ?_, hl, hm⟩
    · have e1 : ((zs.take len).map Int.toNat).map (fun (v : Nat) => Value.int .u64 (v : Int)) = (zs.map (Value.int .u64)).take len := by
        rw [List.map_map, ← List.map_take]
        refine List.map_congr_left fun z hz' => ?_
        have hb := bounds_u64 (hwz z (List.mem_of_mem_take hz'))
        simp only [Function.comp]
        rw [Int.toNat_of_nonneg hb.1]
      rw [e1]
      refine sl_row (xs := zs.map (Value.int .u64)) (by rw [List.length_map, hz]; exact hl) (fun i hi => ?_)
      simp only [List.length_map] at hi
      rw [hcell i hi]
      simp [List.getD, hi]
    · intro v hv
      obtain ⟨z, hz', rfl⟩ := List.mem_map.1 hv
      have hb := bounds_u64 (hwz z (List.mem_of_mem_take hz'))
      omega
theorem open_flags {t e : TypeId} (ht : P.underlying t = some (.slice e)) (he : P.underlying e = some .bool) (hc : P.cellsOf e = 1)
    {A : Option Addr} {len cap : Nat} {d : DataW H} {ps : List MemPlace} (h : DataW.Trod enc P w 0 (fun _ => true) held t (.slice A len cap) d ps) :
    ∃ bs : List Bool, Sl w A len (fv bs) ∧ len ≤ cap ∧ cap ≤ maxLen := by
  obtain ⟨fuel, hf⟩ := h
  rcases Go.Deep.open_bools ht he hc hf with ⟨hcs, _⟩ | ⟨x, l, c, B, hcs, _, hl, hm, _, hcell⟩
  · simp [Value.cells] at hcs
    obtain ⟨rfl, rfl, rfl⟩ := hcs
    exact ⟨[], Sl.nil, Nat.le_refl _, by unfold maxLen; omega⟩
  · simp [Value.cells] at hcs
    obtain ⟨rfl, rfl, rfl⟩ := hcs
    refine ⟨((List.range cap).map B).take len, ?_, hl, hm⟩
    have e1 : fv (((List.range cap).map B).take len) = ((List.range cap).map fun i => Value.bool (B i)).take len := by
      unfold fv
      rw [← List.map_take, ← List.map_take, List.map_map]
      rfl
    rw [e1]
    refine sl_row (xs := (List.range cap).map fun i => Value.bool (B i)) (by simpa using hl) (fun i hi => ?_)
    simp only [List.length_map, List.length_range] at hi
    rw [hcell i hi]
    simp [hi]
end
end Go.Proofs.YtjgdjobhhdhfjaaGreat
