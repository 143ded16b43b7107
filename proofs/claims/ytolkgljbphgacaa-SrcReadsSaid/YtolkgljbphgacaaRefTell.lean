/-
  The reference's cursor: a row of bits, as one answer, and a told row.
-/
import Derived.Test.YtolkgljbphgacaaRefRow
import Derived.Test.YtolkgljbphgacaaTold
namespace Go.Proofs.Ytolkgljbphgacaa
open Go.RowKit

theorem bitsM_dead {bs : List UInt8} {k : Nat} {code x : Int} (hz : code ≠ 0) : bitsM bs k code x = ([], k, code) := by
  have hl : leftOf bs k code = [] := by simp [leftOf, hz]
  unfold bitsM
  rw [hl]
  by_cases h : (readM [] x).2 = 0
  · rw [if_pos h]
    obtain ⟨h0, h1⟩ := readM_zero h
    have hx : x.toNat = 0 := by simp [rowLenN] at h1; omega
    have h2 : readM [] x = (rowOf [] 0, 0) := by
      unfold readM at h ⊢
      rw [hx] at h ⊢
      by_cases g1 : x < 0 ∨ ([] : List UInt8).length < rowLenN 0
      · rw [if_pos g1] at h; cases h
      · rw [if_neg g1] at h ⊢
        by_cases g2 : tailBad [] 0 = true
        · rw [if_pos g2] at h; cases h
        · rw [if_neg g2]
    rw [h2, hx]
    rfl
  · rw [if_neg h, over_ne _ hz]

theorem curBits_any {g : Nat} {lo : Nat → Prop} {bs : List UInt8} {k : Nat} {x code : Int} {w : World} (h : Cur 30 w g lo bs k code) (hm : bs.length ≤ 1000000000) (hx : x ≤ 9223372036854775807) :
    Calls Try.prog 22 #[.pointer (some ⟨g, 0, none⟩), .int .i64 x] w (RowPost w g lo bs (bitsM bs k code x)) := by
  by_cases hz : code = 0
  · subst hz
    by_cases h1 : x < 0 ∨ (leftOf bs k 0).length < rowLenN x.toNat
    · have hM : bitsM bs k 0 x = ([], k, over 0 3) := by
        unfold bitsM readM
        rw [if_pos h1]
        rfl
      rw [hM]
      refine (curBits_fail h hm ?_).mono ?_
      · by_cases hn : x < 0
        · exact .inr (.inl hn)
        · refine .inr (.inr ⟨x.toNat, by omega, by omega, ?_⟩)
          rcases h1 with h' | h'
          · exact absurd h' hn
          · exact h'
      · rintro e w' ⟨rfl, hc, hg⟩
        exact ⟨none, 0, rfl, World.ownsRow_nil _ _ _ _, hc, hg⟩
    · have hM : bitsM bs k 0 x = goM (leftOf bs k 0) x.toNat k := by
        unfold bitsM readM goM
        rw [if_neg h1]
        by_cases h2 : tailBad (leftOf bs k 0) x.toNat = true
        · rw [if_pos h2, if_pos h2]; rfl
        · rw [if_neg h2, if_neg h2]; rfl
      rw [hM]
      obtain ⟨n, rfl⟩ := Int.eq_ofNat_of_zero_le (show 0 ≤ x by omega)
      exact curBits_go h hm (by simpa using (show ¬ (leftOf bs k 0).length < rowLenN (n : Int).toNat by omega))
  · rw [bitsM_dead hz]
    refine (curBits_fail h hm (.inl hz)).mono ?_
    rintro e w' ⟨rfl, hc, hg⟩
    rw [over_ne _ hz] at hc
    exact ⟨none, 0, rfl, World.ownsRow_nil _ _ _ _, hc, hg⟩

set_option maxHeartbeats 1000000 in
theorem curTold_none {g : Nat} {lo : Nat → Prop} {bs : List UInt8} {k : Nat} {x code : Int} {w : World} (h : Cur 30 w g lo bs k code) (hb : x < 0 ∨ leftOf bs k code = []) :
    Calls Try.prog 24 #[.pointer (some ⟨g, 0, none⟩), .int .i64 x] w fun e w' =>
      e = .returned (.slice none 0 0) ∧ Cur 30 w' g lo bs k (over code 3) ∧ w.grownBy w' (some g) := by
  have HL := Lib.hid (curLeft_any h)
  have HC := Lib.hid h
  clear h
  generalize leftOf bs k code = r at *
  by_cases hr : r = []
  · subst hr
    clear hb
    rw [List.length_nil] at HL
    go_enter Try.func24, Try.ntmps24
    go_wp2_with fail
    refine HL.out.mono ?_
    rintro e w1 ⟨rfl, d, rfl⟩
    go_wp2_with fail
    refine (curFail_any (HC.out.drewN _)).mono ?_
    rintro e w2 ⟨rfl, hc, hg⟩
    have HC2 := Lib.hid hc
    have HG := Lib.hid (only_of_drewN hg)
    clear hc hg
    go_wp2_with fail
    go_ret
    exact ⟨rfl, HC2.out, HG.out⟩
  · have hx : x < 0 := by
      rcases hb with h | h
      · exact h
      · exact absurd h hr
    have hl1 : ¬ (r.length : Int) < 1 := by have := List.length_pos_iff.2 hr; omega
    clear hb hr
    go_enter Try.func24, Try.ntmps24
    go_wp2_with fail
    refine HL.out.mono ?_
    rintro e w1 ⟨rfl, d, rfl⟩
    go_wp2_with fail
    refine (curFail_any (HC.out.drewN _)).mono ?_
    rintro e w2 ⟨rfl, hc, hg⟩
    have HC2 := Lib.hid hc
    have HG := Lib.hid (only_of_drewN hg)
    clear hc hg
    go_wp2_with fail
    go_ret
    exact ⟨rfl, HC2.out, HG.out⟩

set_option maxHeartbeats 1000000 in
theorem curTold_bad {g : Nat} {lo : Nat → Prop} {bs t : List UInt8} {f : UInt8} {k n : Nat} {w : World} (h : Cur 30 w g lo bs k 0) (hm : bs.length ≤ 1000000000) (hr : leftOf bs k 0 = f :: t) (hn : n ≤ 1000000000) (hbad : 1 < f.toNat) :
    Calls Try.prog 24 #[.pointer (some ⟨g, 0, none⟩), .int .i64 (n : Int)] w (RowPost w g lo bs ([], k, 5)) := by
  have hl := fun d => curLeft_any (h.drewN d)
  rw [hr, List.length_cons] at hl
  have HL := Lib.hid hl
  have HC := Lib.hid h
  have hdr : bs.drop k = f :: t := by simpa [leftOf] using hr
  have hlen : bs.length - k = t.length + 1 := by rw [← List.length_drop, hdr, List.length_cons]
  obtain ⟨A, c, hB, hS, r1, r2, r3, r4⟩ := h
  have HB := Lib.hid hB
  have HS := Lib.hid hS
  have HR4 := Lib.hid r4
  obtain ⟨b, o, rfl, _, hc⟩ := hS.2 (by omega)
  have hk : k < bs.length := by omega
  have hc0 : w.cell? ⟨b, o + k, none⟩ = some (.int .u8 (f.toNat : Int)) := by
    rw [hc k hk, bv_get _ _ hk]
    have : bs[k]? = some f := by rw [← Nat.add_zero k, ← List.getElem?_drop, hdr]; rfl
    simp [List.getD, this]
  have h1 : w.cell? ⟨g, 1, none⟩ = some (.int .i64 (k : Int)) := hB.cell 1
  have hf1 : w.frozen? ⟨g, 1, none⟩ = false := hB.free 1
  have h0 : w.cell? ⟨g, 0, none⟩ = some (.slice (some ⟨b, o, none⟩) bs.length c) := hB.cell 0
  have hmx := r2
  unfold maxLen at hmx
  have f1 : (k : Int) < (bs.length : Int) := by omega
  have f2 : (0 : Int) ≤ (k : Int) := by omega
  have hx0 : ¬ (n : Int) < 0 := by omega
  have hf := f.toNat_lt
  generalize f.toNat = ff at hc0 hf hbad
  have hb1 : (1 : Int) < (ff : Int) := by omega
  clear hB hS r4 hc hdr hr hl
  go_enter Try.func24, Try.ntmps24
  go_wp2_with fail
  refine (HL.out 0).mono ?_
  rintro e w1 ⟨rfl, d, rfl⟩
  go_wp2_with fail
  go_quiet (fail)
  go_wp2_with fail
  refine (curFail_any (HC.out.drewN _)).mono ?_
  rintro e w2 ⟨rfl, hc, hg⟩
  have HC2 := Lib.hid hc
  have HG := Lib.hid (only_of_drewN hg)
  clear hc hg
  go_wp2_with fail
  go_ret
  exact ⟨none, 0, rfl, World.ownsRow_nil _ _ _ _, HC2.out, HG.out⟩

set_option maxHeartbeats 1000000 in
theorem curTold_ones {g : Nat} {lo : Nat → Prop} {bs t : List UInt8} {f : UInt8} {k n : Nat} {w : World} (h : Cur 30 w g lo bs k 0) (hm : bs.length ≤ 1000000000) (hr : leftOf bs k 0 = f :: t) (hn : n ≤ 1000000000) (hone : f.toNat = 1) :
    Calls Try.prog 24 #[.pointer (some ⟨g, 0, none⟩), .int .i64 (n : Int)] w (RowPost w g lo bs (List.replicate n true, k + 1, 0)) := by
  obtain ⟨i, hi, hz0, hz1, hz2⟩ := info_parts info_bool
  have HLT := Lib.hid h.lt
  have hl := fun d => curLeft_any (h.drewN d)
  rw [hr, List.length_cons] at hl
  have HL := Lib.hid hl
  have HC := Lib.hid h
  have hdr : bs.drop k = f :: t := by simpa [leftOf] using hr
  have hlen : bs.length - k = t.length + 1 := by rw [← List.length_drop, hdr, List.length_cons]
  obtain ⟨A, c, hB, hS, r1, r2, r3, r4⟩ := h
  have HB := Lib.hid hB
  have HS := Lib.hid hS
  have HR4 := Lib.hid r4
  obtain ⟨b, o, rfl, _, hc⟩ := hS.2 (by omega)
  have hk : k < bs.length := by omega
  have hc0 : w.cell? ⟨b, o + k, none⟩ = some (.int .u8 (f.toNat : Int)) := by
    rw [hc k hk, bv_get _ _ hk]
    have : bs[k]? = some f := by rw [← Nat.add_zero k, ← List.getElem?_drop, hdr]; rfl
    simp [List.getD, this]
  have h1 : w.cell? ⟨g, 1, none⟩ = some (.int .i64 (k : Int)) := hB.cell 1
  have hf1 : w.frozen? ⟨g, 1, none⟩ = false := hB.free 1
  have h0 : w.cell? ⟨g, 0, none⟩ = some (.slice (some ⟨b, o, none⟩) bs.length c) := hB.cell 0
  have hmx := r2
  unfold maxLen at hmx
  have f1 : (k : Int) < (bs.length : Int) := by omega
  have f2 : (0 : Int) ≤ (k : Int) := by omega
  have hx0 : ¬ (n : Int) < 0 := by omega
  have hf := f.toNat_lt
  rw [hone] at hc0
  clear hB hS r4 hc hdr hr hl hone hf
  go_enter Try.func24, Try.ntmps24
  go_wp2_with fail
  refine (HL.out 0).mono ?_
  rintro e w1 ⟨rfl, d, rfl⟩
  go_wp2_with fail
  go_quiet (fail)
  go_wp2_with fail
  have hsc : ∀ D, Cur 30 ((w.drewN D).setCell ⟨g, 1, none⟩ (.int .i64 ((k : Int) + 1))) g lo bs (k + 1) 0 ∧ w.grownBy ((w.drewN D).setCell ⟨g, 1, none⟩ (.int .i64 ((k : Int) + 1))) (some g) := fun D =>
    ⟨⟨some ⟨b, o, none⟩, c, (HB.out.drewN D).put 1 (.int .i64 ((k + 1 : Nat) : Int)), (HS.out.drewN D).grown (only_setCell (World.grownBy.refl _ _) (.inl rfl) _) (fun hn b' o' e => (HR4.out hn b' o' e).2), r1, r2, by omega, HR4.out⟩, only_setCell (only_drewN (World.grownBy.refl w _) _) (.inl rfl) _⟩
  have HSC := Lib.hid hsc
  clear hsc
  have hsc := HSC.out (d + nq)
  generalize (w.drewN (d + nq)).setCell ⟨g, 1, none⟩ (.int .i64 ((k : Int) + 1)) = W1 at hsc ⊢
  have HC1 := Lib.hid hsc.1
  have HG1 := Lib.hid hsc.2
  clear hsc h0 h1 hf1 hc0
  go_loopw [9, 8] (fun x s wr => ∃ (j : Nat) (A2 : Option Addr) (c2 : Nat), j ≤ n ∧ x = .int .i64 j ∧ s = .slice A2 j c2 ∧ wr.ownsRow W1.heap.size 4 1 (.slice A2 j c2) j (fv (List.replicate j true)) ∧ Below W1.heap.size W1 wr) (fun x _ _ => n - (intOf x).toNat)
  case atStart => exact ⟨0, none, 0, Nat.zero_le _, rfl, rfl, World.ownsRow_nil _ _ _ _, Below.refl _ _⟩
  case round =>
    obtain ⟨j, A2, c2, hj, rfl, rfl, ho, hb⟩ := hrel
    have HO := Lib.hid ho
    have HBr := Lib.hid hb
    clear ho hb
    by_cases hjn : j < n
    · have HR := Lib.hid (show List.replicate (j + 1) true = List.replicate j true ++ [true] from List.replicate_succ')
      go_wp2_with (at_builtin; refine wpList_app _ rfl (.tmp 64) (.tmp 65) 39 rfl W1.heap.size 4 i _ 1 Try.underlying39 hi hz0 hz1 hz2 rfl _ j _ rfl (HO.out.alloc _) _ 1 1 _ rfl (sl_one _ _ _) (by intro u hu; rw [List.mem_singleton.1 hu]; rfl) (by omega) (by omega) (by have := HBr.out.size; simp; omega) ?_)
      intro A3 c3 w3 ho hg
      have HB3 := Lib.hid ((HBr.out.alloc HBr.out.size _).grown hg (by have := HBr.out.size; simp; omega) (fun b e => (HO.out.lt b e).1))
      have HO3 : Hid (w3.ownsRow W1.heap.size 4 1 (.slice A3 (j + 1) c3) (j + 1) (fv (List.replicate (j + 1) true))) := by
        rw [HR.out, fv_append]
        exact ho
      clear ho hg
      go_wp2_with fail
      go_roundw
      case rel => exact ⟨j + 1, A3, c3, by omega, by go_num, rfl, HO3.out, HB3.out⟩
      case measure => simp [intOf]; omega
    · obtain rfl : j = n := by omega
      go_wp2_with fail
      go_ret
      refine ⟨A2, c2, by rw [List.length_replicate]; rfl, ?_, HC1.out.below HBr.out, only_then HG1.out HBr.out⟩
      rw [List.length_replicate]
      exact own_mono HO.out HG1.out.size

set_option maxHeartbeats 1000000 in
theorem curTold_zero {g : Nat} {lo : Nat → Prop} {bs t : List UInt8} {f : UInt8} {k n : Nat} {w : World} (h : Cur 30 w g lo bs k 0) (hm : bs.length ≤ 1000000000) (hr : leftOf bs k 0 = f :: t) (hn : n ≤ 1000000000) (hone : f.toNat = 0) :
    Calls Try.prog 24 #[.pointer (some ⟨g, 0, none⟩), .int .i64 (n : Int)] w (RowPost w g lo bs (toldM bs k 0 (n : Int))) := by
  have hlt := h.lt
  have hl := fun d => curLeft_any (h.drewN d)
  rw [hr, List.length_cons] at hl
  have HL := Lib.hid hl
  have HC := Lib.hid h
  have hdr : bs.drop k = f :: t := by simpa [leftOf] using hr
  have hlen : bs.length - k = t.length + 1 := by rw [← List.length_drop, hdr, List.length_cons]
  obtain ⟨A, c, hB, hS, r1, r2, r3, r4⟩ := h
  have HB := Lib.hid hB
  have HS := Lib.hid hS
  have HR4 := Lib.hid r4
  obtain ⟨b, o, rfl, _, hc⟩ := hS.2 (by omega)
  have hk : k < bs.length := by omega
  have hc0 : w.cell? ⟨b, o + k, none⟩ = some (.int .u8 (f.toNat : Int)) := by
    rw [hc k hk, bv_get _ _ hk]
    have : bs[k]? = some f := by rw [← Nat.add_zero k, ← List.getElem?_drop, hdr]; rfl
    simp [List.getD, this]
  have h1 : w.cell? ⟨g, 1, none⟩ = some (.int .i64 (k : Int)) := hB.cell 1
  have hf1 : w.frozen? ⟨g, 1, none⟩ = false := hB.free 1
  have h0 : w.cell? ⟨g, 0, none⟩ = some (.slice (some ⟨b, o, none⟩) bs.length c) := hB.cell 0
  have hmx := r2
  unfold maxLen at hmx
  have f1 : (k : Int) < (bs.length : Int) := by omega
  have f2 : (0 : Int) ≤ (k : Int) := by omega
  have hx0 : ¬ (n : Int) < 0 := by omega
  have hf := f.toNat_lt
  have hle : leftOf bs (k + 1) 0 = t := by simp [leftOf]; rw [← List.drop_drop, hdr]; rfl
  have hf0 : f = 0 := by
    have : f.toNat = (0 : UInt8).toNat := by rw [hone]; rfl
    exact UInt8.toNat_inj.1 this
  have htm : toldM bs k 0 (n : Int) = if (readM t (n : Int)).2 = 0 then ((readM t (n : Int)).1, k + (1 + rowLenN n), 0) else ([], k, (readM t (n : Int)).2) := by
    unfold toldM
    rw [hr]
    simp only
    rw [if_neg (by omega), if_pos hf0, over_zero]
    rfl
  have hbm : bitsM bs (k + 1) 0 (n : Int) = if (readM t (n : Int)).2 = 0 then ((readM t (n : Int)).1, k + (1 + rowLenN n), 0) else ([], k + 1, (readM t (n : Int)).2) := by
    unfold bitsM
    rw [hle, over_zero]
    by_cases e : (readM t (n : Int)).2 = 0
    · rw [if_pos e, if_pos e]
      simp only [Int.toNat_natCast, Nat.add_assoc]
    · rw [if_neg e, if_neg e]
  have hbits := fun W hC => curBits_any (g := g) (lo := lo) (bs := bs) (k := k + 1) (x := (n : Int)) (code := 0) (w := W) hC hm (by omega)
  rw [hbm] at hbits
  rw [htm]
  clear htm hbm
  generalize readM t (n : Int) = rm at hbits ⊢
  obtain ⟨row, rc⟩ := rm
  simp only at hbits ⊢
  have hsc : ∀ D, Cur 30 ((w.drewN D).setCell ⟨g, 1, none⟩ (.int .i64 ((k : Int) + 1))) g lo bs (k + 1) 0 ∧ w.grownBy ((w.drewN D).setCell ⟨g, 1, none⟩ (.int .i64 ((k : Int) + 1))) (some g) := fun D =>
    ⟨⟨some ⟨b, o, none⟩, c, (HB.out.drewN D).put 1 (.int .i64 ((k + 1 : Nat) : Int)), (HS.out.drewN D).grown (only_setCell (World.grownBy.refl _ _) (.inl rfl) _) (fun hn b' o' e => (HR4.out hn b' o' e).2), r1, r2, by omega, HR4.out⟩, only_setCell (only_drewN (World.grownBy.refl w _) _) (.inl rfl) _⟩
  have HSC := Lib.hid hsc
  clear hsc
  rw [hone] at hc0
  clear hB hS r4 hc hdr hr hl hone hf hf0 hle
  by_cases hrc : rc = 0
  · rw [if_pos hrc] at hbits ⊢
    have HBI := Lib.hid hbits
    clear hbits hrc
    go_enter Try.func24, Try.ntmps24
    go_wp2_with fail
    refine (HL.out 0).mono ?_
    rintro e w1 ⟨rfl, d, rfl⟩
    go_wp2_with fail
    go_quiet (fail)
    go_wp2_with fail
    have hsc := HSC.out (d + nq)
    generalize (w.drewN (d + nq)).setCell ⟨g, 1, none⟩ (.int .i64 ((k : Int) + 1)) = W1 at hsc ⊢
    have HC1 := Lib.hid hsc.1
    have HG1 := Lib.hid hsc.2
    clear hsc h0 h1 hf1 hc0
    refine (HBI.out _ HC1.out).mono ?_
    rintro e w2 ⟨A2, c2, rfl, ho, hc, hg⟩
    have HO := Lib.hid (own_mono ho HG1.out.size)
    have HG2 := Lib.hid (only_trans HG1.out hg)
    have j2 : w2.cell? ⟨g, 2, none⟩ = some (.int .i64 0) := by obtain ⟨A, c, hB, _⟩ := hc; exact hB.cell 2
    have HC2 := Lib.hid hc
    clear ho hc hg
    go_wp2_with fail
    go_ret
    exact ⟨A2, c2, rfl, HO.out, HC2.out, HG2.out⟩
  · rw [if_neg hrc] at hbits ⊢
    have HBI := Lib.hid hbits
    have hrb : (rc != 0) = true := by simpa using hrc
    clear hbits
    go_enter Try.func24, Try.ntmps24
    go_wp2_with fail
    refine (HL.out 0).mono ?_
    rintro e w1 ⟨rfl, d, rfl⟩
    go_wp2_with fail
    go_quiet (fail)
    go_wp2_with fail
    have hsc := HSC.out (d + nq)
    generalize (w.drewN (d + nq)).setCell ⟨g, 1, none⟩ (.int .i64 ((k : Int) + 1)) = W1 at hsc ⊢
    have HC1 := Lib.hid hsc.1
    have HG1 := Lib.hid hsc.2
    clear hsc h0 h1 hf1 hc0
    refine (HBI.out _ HC1.out).mono ?_
    rintro e w2 ⟨A2, c2, rfl, ho, hc, hg⟩
    have hown := own_form ho
    have HO := Lib.hid (own_mono ho HG1.out.size)
    have HG2 := Lib.hid (only_trans HG1.out hg)
    have j2 : w2.cell? ⟨g, 2, none⟩ = some (.int .i64 rc) := by obtain ⟨A, c, hB, _⟩ := hc; exact hB.cell 2
    have j1 : w2.cell? ⟨g, 1, none⟩ = some (.int .i64 ((k + 1 : Nat) : Int)) := by obtain ⟨A, c, hB, _⟩ := hc; exact hB.cell 1
    have jf : w2.frozen? ⟨g, 1, none⟩ = false := by obtain ⟨A, c, hB, _⟩ := hc; exact hB.free 1
    have HC2 := Lib.hid hc
    clear ho hc hg hown
    go_wp2_with fail
    go_ret
    obtain ⟨A', c', hB', hS', s1, s2, s3, s4⟩ := HC2.out
    refine ⟨A2, c2, rfl, ownsRow_setCell_below HO.out hlt _, ⟨A', c', hB'.put 1 (.int .i64 (k : Int)), hS'.grown (only_setCell (World.grownBy.refl _ _) (.inl rfl) _) (fun hn b' o' e => (s4 hn b' o' e).2), s1, s2, (by show k ≤ bs.length; omega), s4⟩, only_trans HG2.out (only_setCell (World.grownBy.refl _ _) (.inl rfl) _)⟩

theorem curTold_any {g : Nat} {lo : Nat → Prop} {bs : List UInt8} {k : Nat} {x code : Int} {w : World} (h : Cur 30 w g lo bs k code) (hm : bs.length ≤ 1000000000) (hx : x ≤ 1000000000) :
    Calls Try.prog 24 #[.pointer (some ⟨g, 0, none⟩), .int .i64 x] w (RowPost w g lo bs (toldM bs k code x)) := by
  rcases hr : leftOf bs k code with _ | ⟨f, t⟩
  · have hM : toldM bs k code x = ([], k, over code 3) := by unfold toldM; rw [hr]
    rw [hM]
    refine (curTold_none h (.inr hr)).mono ?_
    rintro e w' ⟨rfl, hc, hg⟩
    exact ⟨none, 0, rfl, World.ownsRow_nil _ _ _ _, hc, hg⟩
  · have hz : code = 0 := by
      by_cases hz : code = 0
      · exact hz
      · simp [leftOf, hz] at hr
    subst hz
    by_cases hx0 : x < 0
    · have hM : toldM bs k 0 x = ([], k, over 0 3) := by unfold toldM; rw [hr]; simp only; rw [if_pos hx0]
      rw [hM]
      refine (curTold_none h (.inl hx0)).mono ?_
      rintro e w' ⟨rfl, hc, hg⟩
      exact ⟨none, 0, rfl, World.ownsRow_nil _ _ _ _, hc, hg⟩
    · obtain ⟨n, rfl⟩ := Int.eq_ofNat_of_zero_le (show 0 ≤ x by omega)
      by_cases h0 : f = 0
      · exact curTold_zero h hm hr (by omega) (by rw [h0]; rfl)
      · by_cases h1 : f = 1
        · have hM : toldM bs k 0 (n : Int) = (List.replicate n true, k + 1, 0) := by
            unfold toldM; rw [hr]; simp only; rw [if_neg hx0, if_neg h0, if_pos h1, Int.toNat_natCast]
          rw [hM]
          exact curTold_ones h hm hr (by omega) (by rw [h1]; rfl)
        · have hM : toldM bs k 0 (n : Int) = ([], k, 5) := by
            unfold toldM; rw [hr]; simp only; rw [if_neg hx0, if_neg h0, if_neg h1, over_zero]
          rw [hM]
          refine curTold_bad h hm hr (by omega) ?_
          have g0 : f.toNat ≠ 0 := fun e => h0 (UInt8.toNat_inj.1 (by rw [e]; rfl))
          have g1 : f.toNat ≠ 1 := fun e => h1 (UInt8.toNat_inj.1 (by rw [e]; rfl))
          omega
end Go.Proofs.Ytolkgljbphgacaa
