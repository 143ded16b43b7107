/-
  LqPlainW: put together.
-/
import Derived.Test.YtdhhibfppcpieaaGreatDoorR25
import Derived.Test.YtdhhibfppcpieaaGreatDoorR24
import Derived.Test.YtdhhibfppcpieaaGreatDoorR19
import Derived.Deep.CutRange
import Derived.Deep.CutBlock
set_option linter.unusedVariables false
set_option linter.unusedSimpArgs false
/-
  The law Lzma2Plain, walked.
-/
namespace Go.Proofs.YtdhhibfppcpieaaGreatDoor
open Go.RowKit

theorem imin_int {P : Program} (ts : Array TypeId) (t : TypeId) (x y k : Int) (hk : k = min x y) : ∀ w, (Builtin.min_ ts t #[.int .i64 x, .int .i64 y]).run P w = .ok (.int .i64 k) w := by
  intro w
  subst hk
  by_cases h : x ≤ y
  · rw [Int.min_eq_left h]
    simp [Builtin.min_, Builtin.min2]; omega
  · rw [Int.min_eq_right (by omega)]
    simp [Builtin.min_, Builtin.min2]; omega
theorem below_app {w wr wa w7 : World} {B n : Nat} {e : TypeId} {v : Value} {xs : List Value} (hb : Below w.heap.size w wr) (ha : Only (fun _ => False) wr wa) (hown : wr.ownsRow B e 1 v n xs) (hB : w.heap.size ≤ B) (hg : wa.grownBy w7 v.ownBlock) : Below w.heap.size w w7 ∧ wr.heap.size ≤ w7.heap.size := by
  have h1 : Only (fun i => v.ownBlock = some i) wa w7 := ⟨hg.os, hg.tape, hg.output, hg.size, fun i hi hn => hg.block i hi (fun e => hn e.symm)⟩
  have h2 := (ha.mono (fun _ h => h.elim)).trans h1
  exact ⟨hb.trans (h2.below hb.size (fun i hi => Nat.le_trans hB (own_at hown hi).1)), h2.size⟩

/-- what stands between two chunks -/
structure Cut2 (w : World) (B : Nat) (bs : List UInt8) (v5 v6 v7 : Value) (wr : World) (C : List UInt8) (k i : Nat) (Ar : Option Addr) (cr : Nat) : Prop where
  v6 : v6 = .slice Ar (bs.length - k) cr
  v7 : v7 = .int .i64 (i : Int)
  hk : k ≤ bs.length
  hi : i ≤ k
  cap : bs.length - k ≤ cr ∧ cr ≤ 9223372036854775807
  rest : Sl w Ar (bs.length - k) (bv (bs.drop k))
  own : wr.ownsRow B 5 1 v5 C.length (bv C)
  len : C.length ≤ 4 * k
  chunks : Chunks C (bs.take k)
  first : C.isEmpty = decide (i = 0)
  below : Below w.heap.size w wr
  bot : w.heap.size ≤ B ∧ B ≤ wr.heap.size
theorem Cut2.more {w wr w8 : World} {B : Nat} {bs : List UInt8} {v5 v6 v7 v5' v6' v7' : Value} {C : List UInt8} {k i z : Nat} {Ar Ar' : Option Addr} {cr cr' : Nat} (h : Cut2 w B bs v5 v6 v7 wr C k i Ar cr) (h1 : 1 ≤ z) (h2 : z ≤ bs.length - k) (h3 : z ≤ 65536)
    (ho : w8.ownsRow B 5 1 v5' (C.length + 3 + z) (bv C ++ (bv (headN C.isEmpty z) ++ bv ((bs.drop k).take z)))) (hb : Below w.heap.size w w8) (hs : B ≤ w8.heap.size)
    (h6 : v6' = .slice Ar' (bs.length - (k + z)) cr') (hr : Sl w Ar' (bs.length - (k + z)) (bv (bs.drop (k + z)))) (hc : bs.length - (k + z) ≤ cr' ∧ cr' ≤ cr) (h7 : v7' = .int .i64 ((i + 1 : Nat) : Int)) :
    Cut2 w B bs v5' v6' v7' w8 (C ++ (headN C.isEmpty z ++ (bs.drop k).take z)) (k + z) (i + 1) Ar' cr' := by
  have hk := h.hk
  have hlen : ((bs.drop k).take z).length = z := by rw [List.length_take, List.length_drop]; omega
  have hh : (headN C.isEmpty z).length = 3 := rfl
  have htot : (C ++ (headN C.isEmpty z ++ (bs.drop k).take z)).length = C.length + 3 + z := by rw [List.length_append, List.length_append, hlen, hh]; omega
  refine ⟨h6, h7, by omega, by have := h.hi; omega, ⟨hc.1, Nat.le_trans hc.2 h.cap.2⟩, hr, ?_, by have := h.len; omega, ?_, ?_, hb, ⟨h.bot.1, hs⟩⟩
  · rw [htot, bv_append, bv_append]
    exact ho
  · have := h.chunks.more (E := (bs.drop k).take z) (by intro e; rw [e] at hlen; simp at hlen; omega) (by omega)
    rw [hlen] at this
    rw [show bs.take (k + z) = bs.take k ++ (bs.drop k).take z from List.take_add]
    exact this
  · have : (C ++ (headN C.isEmpty z ++ (bs.drop k).take z)).isEmpty = false := by
      unfold headN
      cases C <;> simp
    rw [this]
    simp

theorem head_row (w : World) {first : Bool} {i z t y : Nat} (hf : first = decide (i = 0)) (ht : t = min i 1) (hy : y = z - 1) (hz : z ≤ 3000) :
    Sl (w.alloc (.cells #[.int .u8 ((t : Int) + 1), .int .u8 ((y : Int) / 256), .int .u8 ((y : Int) % 256)] 5)) (some ⟨w.heap.size, 0, none⟩) 3 (bv (headN first z)) := by
  have e : (#[.int .u8 ((t : Int) + 1), .int .u8 ((y : Int) / 256), .int .u8 ((y : Int) % 256)] : Array Value) = (bv (headN first z)).toArray := by
    have e1 : ((UInt8.ofNat ((z - 1) / 256)).toNat : Int) = (y : Int) / 256 := by rw [UInt8.toNat_ofNat', ← hy]; omega
    have e2 : ((UInt8.ofNat ((z - 1) % 256)).toNat : Int) = (y : Int) % 256 := by rw [UInt8.toNat_ofNat', ← hy]; omega
    have e0 : (((if first = true then (1 : UInt8) else 2).toNat : Nat) : Int) = (t : Int) + 1 := by
      by_cases h : i = 0
      · subst h
        rw [hf, ht]
        rfl
      · rw [hf, ht, decide_eq_false h, show min i 1 = 1 by omega]
        rfl
    unfold headN bv
    simp only [List.map_cons, List.map_nil]
    rw [e0, e1, e2]
  rw [e]
  exact sl_lit w 5 (bv (headN first z)).toArray (by simp [headN, bv])

theorem fresh_app {wr wa w7 : World} {v : Value} (ha : Only (fun _ => False) wr wa) (hb : ∀ b, v.ownBlock = some b → wr.heap.size ≤ b) (hg : wa.grownBy w7 v.ownBlock) : Only (fun _ => False) wr w7 := by
  have h1 : Only (fun i => v.ownBlock = some i) wa w7 := ⟨hg.os, hg.tape, hg.output, hg.size, fun i hi hn => hg.block i hi (fun e => hn e.symm)⟩
  exact ha.trans' h1 (fun i hi => .inr (hb i hi))
theorem sl_z1 (w : World) : Sl (w.alloc (.cells #[.int .u8 0] 5)) (some ⟨w.heap.size, 0, none⟩) 1 (bv [0]) := sl_lit w 5 (bv [0]).toArray (by decide)
theorem sl_z2 (w : World) : Sl (w.alloc (.cells #[.int .u8 0, .int .u8 0] 5)) (some ⟨w.heap.size, 0, none⟩) 2 (bv [0, 0]) := sl_lit w 5 (bv [0, 0]).toArray (by decide)
set_option maxRecDepth 100000 in
set_option maxHeartbeats 8000000 in
theorem lzma2Plain_walk {A A' : Option Addr} {n c n' c' : Nat} {bs cs : List UInt8} {w : World} (hS : Sl w A n (bv bs)) (hnc : n ≤ c) (hc : c ≤ maxLen) (hT : Sl w A' n' (bv cs)) (hn' : n' ≤ maxLen) :
    Calls Tryz.prog 4 #[.slice A n c, .slice A' n' c'] w fun e w' => e = .returned (.bool true) ∧ Below w.heap.size w w' := by
  unfold maxLen at hc hn'
  obtain ⟨ii, hi, hz0, hz1, hz2⟩ := info_parts info_u8
  have hbl : bs.length = n := by rw [← hS.1, bv_length]
  have hcl : cs.length = n' := by rw [← hT.1, bv_length]
  have KA := Lib.hid (awake11_any w)
  have HS := Lib.hid hS
  have HT := Lib.hid hT
  have HL := Lib.hid (And.intro hbl (And.intro hcl (And.intro hnc hc)))
  clear hS hT hbl hcl
  by_cases hbig : n > 3000
  · have g1 : (n : Int) > 3000 := by omega
    clear hnc hc hn' hbig
    go_enter Tryz.func4, Tryz.ntmps4
    go_wp2_with fail
    refine KA.out.mono ?_
    rintro e w1 ⟨rfl, hb1⟩
    have HB := Lib.hid hb1
    clear hb1 KA
    go_wp2_with fail
    go_ret
    exact ⟨rfl, HB.out⟩
  · have g1 : ¬ (n : Int) > 3000 := by omega
    have HN := Lib.hid (show n ≤ 3000 by omega)
    clear hnc hc hn' hbig
    go_enter Tryz.func4, Tryz.ntmps4
    go_wp2_with fail
    refine KA.out.mono ?_
    rintro e w1 ⟨rfl, hb1⟩
    have hst : Cut2 w w1.heap.size bs (.slice none 0 0) (.slice A n c) (.int .i64 0) w1 [] 0 0 A c := by
      have h1 := HL.out.1
      have h2 := HS.out
      rw [← h1] at h2 ⊢
      exact ⟨rfl, rfl, Nat.zero_le _, Nat.le_refl _, ⟨by have := HL.out.2.2.1; omega, by have := HL.out.2.2.2; omega⟩, h2, World.ownsRow_nil _ _ _ _, Nat.zero_le _, chunks_none, rfl, hb1, hb1.size, Nat.le_refl _⟩
    have HST := Lib.hid hst
    clear hb1 KA hst
    generalize w1.heap.size = B at HST
    go_wp2_with fail
    go_loopw [5, 6, 7] (fun v5 v6 v7 wr => ∃ (C : List UInt8) (k i : Nat) (Ar : Option Addr) (cr : Nat), Cut2 w B bs v5 v6 v7 wr C k i Ar cr) (fun _ v6 _ wr => slLen v6)
    case atStart => exact ⟨[], 0, 0, A, c, HST.out⟩
    case round =>
      clear HST
      obtain ⟨C, k, i, Ar, cr, h⟩ := hrel
      have HC := Lib.hid h
      obtain ⟨m, hm⟩ : ∃ m, m = bs.length - k := ⟨_, rfl⟩
      obtain rfl := h.v6
      obtain rfl := h.v7
      have HM := Lib.hid hm
      rw [← hm]
      obtain ⟨Av, cv, rfl, _⟩ := own_form h.own
      clear h hm
      by_cases hlt : m > 0
      · have g2 : (m : Int) > 0 := by omega
        have HLT := Lib.hid hlt
        have hn2 := HN.out
        have hmn : m ≤ 3000 := by have := HM.out; have := HL.out.1; omega
        have HMN := Lib.hid hmn
        go_upto_if 31 with fail
        go_cut [8] from 28 to 39 (fun v wx => wx = wr ∧ ∃ z : Nat, v = .int .i64 (z : Int) ∧ 1 ≤ z ∧ z ≤ m)
        case first =>
          by_cases hq : i < n'
          · have g3 : (i : Int) < (n' : Int) := by omega
            obtain ⟨bb, bo, hbA, hbb, hcb⟩ := HT.out.2 (by omega)
            have ccell : wr.cell? ⟨bb, bo + i, none⟩ = some (.int .u8 ((cs.getD i 0).toNat : Int)) := by rw [HC.out.below.cell hbb, hcb i hq, bv_get _ _ (by have := HL.out; omega)]
            have hxb := (cs.getD i 0).toNat_lt
            generalize (cs.getD i 0).toNat = x at ccell hxb
            have e1 : IntKind.i64.wrap (1 + (x : Int)) = 1 + (x : Int) := IntWalk.i64_in _ (by omega)
            obtain ⟨z, hz⟩ : ∃ z, z = min m (1 + x) := ⟨_, rfl⟩
            have hmin := imin_int (P := Tryz.prog) #[3, 3] 3 (m : Int) (1 + (x : Int)) (z : Int) (by omega)
            have HZ := Lib.hid (show 1 ≤ z ∧ z ≤ m by omega)
            subst hbA
            clear hz hcb hq hn2 hmn
            go_wp2_with fail
            go_meet
            exact ⟨rfl, z, rfl, HZ.out.1, HZ.out.2⟩
          · have g3 : ¬ (i : Int) < (n' : Int) := by omega
            clear hq hn2
            go_wp2_with fail
            go_meet
            exact ⟨rfl, m, rfl, HLT.out, Nat.le_refl _⟩
        case rest =>
          obtain ⟨rfl, z, rfl, hz1', hz2'⟩ := hcut
          have HZ := Lib.hid (And.intro hz1' hz2')
          have hz3 : z ≤ 3000 := by omega
          generalize wc = wr at *
          obtain ⟨t, ht⟩ : ∃ t : Nat, t = min i 1 := ⟨_, rfl⟩
          have hmin := imin_int (P := Tryz.prog) #[3, 3] 3 (i : Int) 1 (t : Int) (by omega)
          have hik : i ≤ 3000 := by have := HC.out.hi; have := HC.out.hk; have := HL.out.1; omega
          obtain ⟨y, hy⟩ : ∃ y : Nat, y = z - 1 := ⟨_, rfl⟩
          have ht1 : t ≤ 1 := by rw [ht]; exact Nat.min_le_right _ _
          have hyl : y < 3000 := by omega
          have e1 := pw1 ht1
          have e2 := pw2 ht1
          have e3 := pw3 hy hz1' hz3
          have e8 := pw5 hyl
          have e9 := pw6 hyl
          have HROW := Lib.hid (head_row wr HC.out.first ht hy hz3)
          have hcl : C.length ≤ 12000 := by have := HC.out.len; have := HC.out.hk; have := HL.out.1; omega
          have HCL := Lib.hid hcl
          have hbot := HC.out.bot.2
          have HZ3 := Lib.hid hz3
          clear hz1' hz2' ht hy hn2 hmn hlt hcl ht1 hyl hik
          go_wp2_with (first
            | (at_builtin; refine wpList_appO _ rfl _ _ 22 rfl B 5 ii _ 1 Tryz.underlying22 hi hz0 hz1 hz2 rfl _ C.length (bv C) rfl (HC.out.own.alloc _) _ 3 3 _ rfl HROW.out (bv_one _) ?_ (by decide) ?_ ?_)
            | fail)
          · have := HCL.out; omega
          · simp; omega
          · intro A2 c2 w7 ho hg hv
            have hb7 := below_app HC.out.below ((Only.refl _ wr).alloc _) HC.out.own HC.out.bot.1 hg
            have HO7 := Lib.hid (And.intro ho hb7)
            clear ho hg hv hb7
            have e6 : 0 ≤ (z : Int) := by omega
            have e7 : (z : Int) ≤ (cr : Int) := by have := HZ.out.2; have := HM.out; have := HC.out.cap.1; omega
            have hsl := (HC.out.rest.first (k := z) (by have := HZ.out.2; have := HM.out; omega)).below HO7.out.2.1
            rw [← bv_take] at hsl
            have HSL := Lib.hid hsl
            clear hsl
            go_wp2_with (first
              | (at_builtin; refine wpList_appO _ rfl _ _ 22 rfl B 5 ii _ 1 Tryz.underlying22 hi hz0 hz1 hz2 rfl _ (C.length + 3) _ rfl HO7.out.1 _ z _ _ rfl HSL.out (bv_one _) ?_ (by decide) ?_ ?_)
              | fail)
            · have := HCL.out; have := HZ3.out; omega
            · have := HO7.out.2.2; omega
            · intro A3 c3 w8 ho hg hv
              have hb8 := below_app HO7.out.2.1 (Only.refl _ w7) HO7.out.1 HC.out.bot.1 hg
              have HO8 := Lib.hid (And.intro ho hb8)
              clear ho hg hv hb8
              have HCUT := Lib.hid (HC.out.rest.cut (k := z) (cap := cr) (by have := HZ.out.2; have := HM.out; omega) HC.out.cap.1)
              have e10 : (z : Int) ≤ (m : Int) := by have := HZ.out.2; omega
              have e11 : wrap64 ((i : Int) + 1) = (i : Int) + 1 := IntWalk.wrap64_in _ (by have := HC.out.hi; have := HC.out.hk; have := HL.out.1; have := HN.out; omega)
              have hmz : m - z = bs.length - (k + z) := by have := HM.out; omega
              have HMZ := Lib.hid hmz
              rw [← HM.out] at HCUT
              clear hmz
              go_wp2_with fail
              go_roundw
              case rel =>
                refine ⟨_, k + z, i + 1, _, cr - z, HC.out.more HZ.out.1 (by have := HZ.out.2; have := HM.out; omega) (by have := HZ3.out; omega) HO8.out.1 HO8.out.2.1 (by have := HO8.out.2.2; have := HO7.out.2.2; omega) (by rw [HMZ.out]) ?_ ⟨by have := HC.out.cap.1; omega, by omega⟩ (by first | rfl | (rw [e11]; rfl) | (simp [e11]))⟩
                have h := HCUT.out
                rw [HMZ.out, ← bv_drop, List.drop_drop] at h
                exact h
              case measure =>
                have := HZ.out.1
                have := HLT.out
                show m - z < m
                omega
      · obtain rfl : m = 0 := by omega
        have hkn : k = bs.length := by have := HM.out; have := HC.out.hk; omega
        have hch : Chunks C bs := by
          have := HC.out.chunks
          rw [hkn, List.take_length] at this
          exact this
        have hbn := HL.out.1
        have hcl : C.length ≤ 12000 := by have := HC.out.len; have := HC.out.hk; have := HN.out; omega
        have hrow := HC.out.own
        have HX := Lib.hid (And.intro hch (And.intro hcl (And.intro HC.out.below HC.out.bot)))
        have HROW := Lib.hid (Sl.of_own hrow)
        have HBS := Lib.hid (HS.out.below HC.out.below)
        clear hkn hch hcl hrow HC HM hlt hbn
        go_upto_region 16 with fail
        go_cut [9, 10] from 63 (fun v2 v3 wx => Awk2 bs 0 v2 v3 wx ∧ Only (fun _ => False) wr wx)
        case first =>
          go_wp2_with (first
            | (at_builtin; refine wpList_app _ rfl (.tmp 64) (.tmp 65) 22 rfl wr.heap.size 5 ii _ 1 Tryz.underlying22 hi hz0 hz1 hz2 rfl _ 0 [] rfl (own_empty wr (Nat.le_refl _) _) Av C.length cv (bv C) rfl (HROW.out.alloc _) (bv_one _) ?_ (by decide) ?_ ?_)
            | fail)
          · have := HX.out.2.1; omega
          · simp
          intro A4 c4 w4 ho hg
          try rw [Nat.zero_add] at ho
          try rw [List.nil_append] at ho
          have hO4 := fresh_app ((Only.refl _ wr).alloc _) (by intro b hb; simp [Value.ownBlock] at hb; omega) hg
          have HO4 := Lib.hid (And.intro ho hO4)
          clear ho hg hO4
          go_wp2_with (first
            | (at_builtin; refine wpList_appO _ rfl (.tmp 66) (.tmp 67) 22 rfl wr.heap.size 5 ii _ 1 Tryz.underlying22 hi hz0 hz1 hz2 rfl _ C.length (bv C) rfl (HO4.out.1.alloc _) _ 1 1 _ rfl (sl_z1 w4) (bv_one _) ?_ (by decide) ?_ ?_)
            | fail)
          · have := HX.out.2.1; omega
          · have := HO4.out.2.size
            simp
            omega
          intro A5 c5 w5 ho hg hv
          have hS5 : Sl w5 A5 (C.length + 1) (bv (C ++ [0])) := by rw [bv_append]; exact Sl.of_own ho
          have hO5 : Only (fun _ => False) wr w5 := (HO4.out.2.alloc _).trans' (⟨hg.os, hg.tape, hg.output, hg.size, fun i hi hn => hg.block i hi (fun e => hn e.symm)⟩ : Only (fun i => (Value.slice A4 C.length c4).ownBlock = some i) _ w5) (fun i hi => .inr (own_at HO4.out.1 hi).1)
          have HO5 := Lib.hid (And.intro hS5 hO5)
          clear ho hg hv hS5 hO5 HO4
          go_wp2_with fail
          refine (much_any _).mono ?_
          rintro e w6 ⟨gm, rfl, hM, hg, hb⟩
          have HZ6 := Lib.hid (And.intro (HO5.out.1.below hb) (And.intro hM (And.intro (HO5.out.2.then hb) (And.intro hg HO5.out.2.size))))
          clear hM hg hb
          go_wp2_with fail
          refine (qunp_ok (n := C.length + 1) (bs := C ++ [0]) (p := 0) (size := (n : Int)) (by simp) HZ6.out.1 ?ga (by have := HX.out.2.1; omega) HZ6.out.2.1 (by omega) (by have := HN.out; omega) (by omega) (by rw [Int.toNat_natCast, ← HL.out.1]; exact HX.out.1.ok.1)).mono ?_
          case ga =>
            intro hp q' o' e'
            obtain ⟨b', o2, e2, hlt, _⟩ := HO5.out.1.2 hp
            rw [e'] at e2
            injection e2 with e2
            injection e2 with e2
            have := HZ6.out.2.2.2.1
            omega
          intro e w7 hpost
          rw [Int.toNat_natCast, ← HL.out.1] at hpost
          obtain ⟨v2, v3, rfl, hR, hO7⟩ := awk2_end (w := wr) HZ6.out.2.2.1 (Nat.le_trans HZ6.out.2.2.2.2 HZ6.out.2.2.2.1) (Only.refl _ w6) (ys := bs) HX.out.1.ok.2 rfl hpost
          have HR := Lib.hid (And.intro hR hO7)
          clear hpost hR hO7
          go_wp2_with fail
          go_meet
          exact HR.out
        case rest =>
          obtain ⟨⟨A9, c9, rfl, rfl, hS9⟩, hO9⟩ := hcut
          have HS9 := Lib.hid hS9
          have HO9 := Lib.hid hO9
          have HROW2 := Lib.hid (HROW.out.only hO9 (fun _ _ _ _ h => h))
          clear hS9 hO9 HROW
          generalize wc = wz at *
          go_upto_region 17 with fail
          go_cut [11, 12] from 75 (fun v2 v3 wx => Awk2 [] 12 v2 v3 wx ∧ Only (fun _ => False) wz wx)
          case first =>
            have HO5 := Lib.hid (And.intro HROW2.out (Only.refl (fun _ => False) wz))
            go_wp2_with fail
            refine (much_any _).mono ?_
            rintro e w6 ⟨gm, rfl, hM, hg, hb⟩
            have HZ6 := Lib.hid (And.intro (HO5.out.1.below hb) (And.intro hM (And.intro (HO5.out.2.then hb) (And.intro hg HO5.out.2.size))))
            clear hM hg hb
            go_wp2_with fail
            refine (qunp_ok (n := C.length + 0) (bs := C) (p := 0) (size := (n : Int)) (by simp) HZ6.out.1 ?ga (by have := HX.out.2.1; omega) HZ6.out.2.1 (by omega) (by have := HN.out; omega) (by omega) (by rw [Int.toNat_natCast, ← HL.out.1]; exact HX.out.1.cut.1)).mono ?_
            case ga =>
              intro hp q' o' e'
              obtain ⟨b', o2, e2, hlt, _⟩ := HO5.out.1.2 hp
              rw [e'] at e2
              injection e2 with e2
              injection e2 with e2
              have := HZ6.out.2.2.2.1
              omega
            intro e w7 hpost
            rw [Int.toNat_natCast, ← HL.out.1] at hpost
            obtain ⟨v2, v3, rfl, hR, hO7⟩ := awk2_end (w := wz) HZ6.out.2.2.1 (Nat.le_trans HZ6.out.2.2.2.2 HZ6.out.2.2.2.1) (Only.refl _ w6) (ys := []) HX.out.1.cut.2 rfl hpost
            have HR := Lib.hid (And.intro hR hO7)
            clear hpost hR hO7
            go_wp2_with fail
            go_meet
            exact HR.out
          case rest =>
            obtain ⟨⟨A10, c10, rfl, rfl, hS10⟩, hO10⟩ := hcut
            have HS10 := Lib.hid (HS9.out.only hO10 (fun _ _ _ _ h => h))
            have HO10 := Lib.hid (HO9.out.trans hO10)
            have HROW := Lib.hid (HROW2.out.only hO10 (fun _ _ _ _ h => h))
            clear hS10 hO10 HROW2 HS9 HO9
            generalize wc = wy at *
            go_upto_region 18 with fail
            go_cut [13, 14] from 83 (fun v2 v3 wx => Awk2 [] 12 v2 v3 wx ∧ Only (fun _ => False) wy wx)
            case first =>
              go_wp2_with (first
                | (at_builtin; refine wpList_app _ rfl (.tmp 84) (.tmp 85) 22 rfl wy.heap.size 5 ii _ 1 Tryz.underlying22 hi hz0 hz1 hz2 rfl _ 0 [] rfl (own_empty wy (Nat.le_refl _) _) Av C.length cv (bv C) rfl (HROW.out.alloc _) (bv_one _) ?_ (by decide) ?_ ?_)
                | fail)
              · have := HX.out.2.1; omega
              · simp
              intro A4 c4 w4 ho hg
              try rw [Nat.zero_add] at ho
              try rw [List.nil_append] at ho
              have hO4 := fresh_app ((Only.refl _ wy).alloc _) (by intro b hb; simp [Value.ownBlock] at hb; omega) hg
              have HO4 := Lib.hid (And.intro ho hO4)
              clear ho hg hO4
              go_wp2_with (first
                | (at_builtin; refine wpList_appO _ rfl (.tmp 86) (.tmp 87) 22 rfl wy.heap.size 5 ii _ 1 Tryz.underlying22 hi hz0 hz1 hz2 rfl _ C.length (bv C) rfl (HO4.out.1.alloc _) _ 2 2 _ rfl (sl_z2 w4) (bv_one _) ?_ (by decide) ?_ ?_)
                | fail)
              · have := HX.out.2.1; omega
              · have := HO4.out.2.size
                simp
                omega
              intro A5 c5 w5 ho hg hv
              have hS5 : Sl w5 A5 (C.length + 2) (bv (C ++ [0, 0])) := by rw [bv_append]; exact Sl.of_own ho
              have hO5 : Only (fun _ => False) wy w5 := (HO4.out.2.alloc _).trans' (⟨hg.os, hg.tape, hg.output, hg.size, fun i hi hn => hg.block i hi (fun e => hn e.symm)⟩ : Only (fun i => (Value.slice A4 C.length c4).ownBlock = some i) _ w5) (fun i hi => .inr (own_at HO4.out.1 hi).1)
              have HO5 := Lib.hid (And.intro hS5 hO5)
              clear ho hg hv hS5 hO5 HO4
              go_wp2_with fail
              refine (much_any _).mono ?_
              rintro e w6 ⟨gm, rfl, hM, hg, hb⟩
              have HZ6 := Lib.hid (And.intro (HO5.out.1.below hb) (And.intro hM (And.intro (HO5.out.2.then hb) (And.intro hg HO5.out.2.size))))
              clear hM hg hb
              go_wp2_with fail
              refine (qunp_ok (n := C.length + 2) (bs := C ++ [0, 0]) (p := 0) (size := (n : Int)) (by simp) HZ6.out.1 ?ga (by have := HX.out.2.1; omega) HZ6.out.2.1 (by omega) (by have := HN.out; omega) (by omega) (by rw [Int.toNat_natCast, ← HL.out.1]; exact HX.out.1.long.1)).mono ?_
              case ga =>
                intro hp q' o' e'
                obtain ⟨b', o2, e2, hlt, _⟩ := HO5.out.1.2 hp
                rw [e'] at e2
                injection e2 with e2
                injection e2 with e2
                have := HZ6.out.2.2.2.1
                omega
              intro e w7 hpost
              rw [Int.toNat_natCast, ← HL.out.1] at hpost
              obtain ⟨v2, v3, rfl, hR, hO7⟩ := awk2_end (w := wy) HZ6.out.2.2.1 (Nat.le_trans HZ6.out.2.2.2.2 HZ6.out.2.2.2.1) (Only.refl _ w6) (ys := []) HX.out.1.long.2 rfl hpost
              have HR := Lib.hid (And.intro hR hO7)
              clear hpost hR hO7
              go_wp2_with fail
              go_meet
              exact HR.out
            case rest =>
              obtain ⟨⟨A11, c11, rfl, rfl, hS11⟩, hO11⟩ := hcut
              have hX := HS10.out.only hO11 (fun _ _ _ _ h => h)
              have hOO := HO10.out.trans hO11
              have hBB := HBS.out.only hOO (fun _ _ _ _ h => h)
              have hbn := HL.out.1
              rw [hbn] at hX
              have KS := Lib.hid (fun ca cb => bytesSame_any (ca := ca) (cb := cb) hX hBB (by have := HN.out; omega))
              have HEND := Lib.hid (HX.out.2.2.1.trans (hOO.below HX.out.2.2.1.size (fun _ h => h.elim)))
              rw [hbn]
              clear hS11 hO11 hX hOO hBB HS10 HO10 HBS hbn
              generalize wc = wx at *
              go_wp2_with fail
              refine (KS.out _ _).mono ?_
              rintro e w9 ⟨rfl, k9, rfl⟩
              clear KS
              go_wp2_with fail
              go_ret
              exact ⟨rfl, below_drewN HEND.out k9⟩
end Go.Proofs.YtdhhibfppcpieaaGreatDoor
