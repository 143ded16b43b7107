/-
  LzCodeW: put together.
-/
import Derived.Test.YtpdpbbmkicemdaaGreatMc20
import Derived.Deep.RegionHeld3
import Derived.Test.YtpdpbbmkicemdaaGreatMc16
set_option linter.unusedVariables false
set_option linter.unusedSimpArgs false
/-
  The reference of LZMA: packets are coded: the walk.
-/
namespace Go.Proofs.YtpdpbbmkicemdaaGreat
open Go.RowKit

/-- a coder is put in -/
theorem zn_enc {w2 w3 : World} {g p pc eb q : Nat} {z : Lzs} {L : Nat} {e : En} (hz : Zn w2 g p pc z L) (ho : z.out = []) (hb3 : Below w2.heap.size w2 w3) (hR : Rn w3 eb q e) (heb : w2.heap.size ≤ eb ∧ w2.heap.size ≤ q) :
    Zz (fun _ => False) Ke (w3.setCell ⟨g, 5, none⟩ (.pointer (some ⟨eb, 0, none⟩))) g (fun i => i = g ∨ i = p ∨ i = eb ∨ i = q) z ⟨List.replicate L 1024, e⟩ := by
  obtain ⟨hB, hr, hpg⟩ := hz
  have hg2 := hB.lt
  have hp2 : p < w2.heap.size := hr.lt
  have hset : ∀ (S : Nat → Prop), S g → Only S w3 (w3.setCell ⟨g, 5, none⟩ (.pointer (some ⟨eb, 0, none⟩))) := fun S hS => (Only.refl S w3).setCell (p := ⟨g, 5, none⟩) (.inl hS) _
  have h3 : Only (fun _ => False) w2 w3 := Only.of_below hb3
  have hs3 := hb3.size
  have hdl := hR.lt
  refine ⟨fun i => i = eb ∨ i = q, .pointer none, .pointer (some ⟨eb, 0, none⟩), p, pc, none, 0, ?_, ?_, ?_, ⟨eb, q, rfl, rfl, fun i => Iff.rfl, hR.only (hset (fun i => i = g) rfl) (by show ¬ eb = g; omega) (by show ¬ q = g; omega)⟩, .inl rfl, .inr (.inl rfl), fun i hi => .inr (.inr hi), ?_, hpg, by show ¬ (g = eb ∨ g = q); omega, by show ¬ (p = eb ∨ p = q); omega, ?_, ?_⟩
  · have h4 := (hB.only h3 (fun h => h)).put 5 (.pointer (some ⟨eb, 0, none⟩))
    rw [List.length_replicate, ho]
    exact h4
  · exact (hr.only h3 (fun h => h)).only (hset (fun i => i = g) rfl) hpg
  · rw [ho]
    exact ⟨rfl, .inl ⟨rfl, rfl⟩⟩
  · intro i hi
    rw [ho] at hi
    cases hi
  · rintro i (rfl | rfl | rfl | rfl)
    · simp [World.setCell]; omega
    · simp [World.setCell]; omega
    · simpa [World.setCell] using hdl.1
    · simpa [World.setCell] using hdl.2
  · intro i _ h
    exact h

theorem start_nearE {lc lp pb dict : Nat} (h : SetOk lc lp pb dict) : ZNear (Lzs.start lc lp pb dict) (probsN lc lp) 0 :=
  ⟨h.1, h.2.1, h.2.2.1, h.2.2.2.2, Nat.le_refl _, (show 0 ≤ 11 by decide), (show 0 < 4294967296 by decide), (show 0 < 4294967296 by decide), (show 0 < 4294967296 by decide), (show 0 < 4294967296 by decide), rfl⟩
/-- what coding answers: the stream, and what its packets tell -/
def CodePost (w : World) (s : Lzs × Pm En) (x : Ending) (w' : World) : Prop :=
  Below w.heap.size w w' ∧ ∃ (bs : List UInt8) (A1 : Option Addr) (c1 : Nat) (A2 : Option Addr) (c2 : Nat), x = .returned (.tuple #[.slice A1 bs.length c1, .slice A2 s.1.out.length c2]) ∧ Sl w' A1 bs.length (bv bs) ∧ be bs = s.2.x.n ∧ bs.length = s.2.x.l ∧ bs.length ≤ c1 ∧ Sl w' A2 s.1.out.length (bv s.1.out)

section
variable {w w0 : World} {g : Nat} {G0 : Nat → Prop} {z : Lzs} {t : Pm En}
/-- the coder's bytes -/
theorem ZAt.code (h : ZAt (fun _ => False) Ke w0 G0 w g z t) : ∃ eb A c bs, w.cell? ⟨g, 5, none⟩ = some (.pointer (some ⟨eb, 0, none⟩)) ∧ w.cell? ⟨eb, 0, none⟩ = some (.slice A bs.length c) ∧ Sl w A bs.length (bv bs) ∧ be bs = t.x.n ∧ bs.length = t.x.l ∧ bs.length ≤ c := by
  obtain ⟨G, ⟨Gm, Dv, Ev, p, pc, A7, c7, h⟩, _⟩ := h
  obtain ⟨eb, q, rfl, rfl, hG, ⟨c, bs, hB, hY, h1, h2, hqg⟩⟩ := h.mch
  have hf := own_facts hY.own
  exact ⟨eb, _, c, bs, h.blk.cell 5, hB.cell 0, hf.1, h1, h2, hf.2.1⟩
end

set_option maxRecDepth 100000 in
set_option maxHeartbeats 8000000 in
theorem zcode_any {w : World} {lc lp pb dict n c : Nat} {A : Option Addr} {qs : Nat → Pq} {most : Int} (h : SetOk lc lp pb dict) (hP : Pkts w A n qs) (hq : ∀ i, i < n → PqLit (qs i)) (hn : n ≤ 1000) (hmo : -9223372036854775808 ≤ most ∧ most ≤ 9223372036854775807) :
    Calls Tryz.prog 13 #[.agg #[.int .i64 (lc : Int), .int .i64 (lp : Int), .int .i64 (pb : Int), .int .i64 (dict : Int)], .slice A n c, .int .i64 most] w
      (CodePost w (codeG most qs (Lzs.start lc lp pb dict, ⟨List.replicate (probsN lc lp) 1024, En.new⟩) n)) := by
  obtain ⟨w1, hw1⟩ : ∃ w1, w1 = w.alloc (.cells #[.int .i64 (lc : Int), .int .i64 (lp : Int), .int .i64 (pb : Int), .int .i64 (dict : Int)] 24) := ⟨_, rfl⟩
  have hb1 : Below w.heap.size w w1 := by rw [hw1]; exact (Below.refl _ _).alloc (Nat.le_refl _) _
  have HBk : Blk w1 w.heap.size 24 #[.int .i64 (lc : Int), .int .i64 (lp : Int), .int .i64 (pb : Int), .int .i64 (dict : Int)] := by rw [hw1]; exact Blk.fresh w _ _
  have KN := Lib.hid (znew_any h w1)
  have d0 : w1.cell? ⟨w.heap.size, 0, none⟩ = some (.int .i64 (lc : Int)) := HBk.cell 0
  have d1 : w1.cell? ⟨w.heap.size, 1, none⟩ = some (.int .i64 (lp : Int)) := HBk.cell 1
  have d2 : w1.cell? ⟨w.heap.size, 2, none⟩ = some (.int .i64 (pb : Int)) := HBk.cell 2
  have d3 : w1.cell? ⟨w.heap.size, 3, none⟩ = some (.int .i64 (dict : Int)) := HBk.cell 3
  have HW1 := Lib.hid hw1
  have HB1 := Lib.hid hb1
  have HP := Lib.hid hP
  have HQ := Lib.hid hq
  have HN := Lib.hid hn
  obtain ⟨L, hL⟩ : ∃ L, L = probsN lc lp := ⟨_, rfl⟩
  obtain ⟨z0, hz0⟩ : ∃ z0, z0 = Lzs.start lc lp pb dict := ⟨_, rfl⟩
  have hnear : ZNear z0 L 0 := by rw [hL, hz0]; exact start_nearE h
  have hout : z0.out = [] := by rw [hz0]; rfl
  rw [← hL, ← hz0] at KN ⊢
  have hpm : PmOk okE L (0 + 27 * n) (⟨List.replicate L 1024, En.new⟩ : Pm En) := ⟨fun p hp => by rw [List.eq_of_mem_replicate hp]; exact ⟨by decide, by decide⟩, by simp, enOk_new, by show 5 + 32 * (0 + 27 * n) ≤ _; omega⟩
  have HOK := Lib.hid (fun j (hj : j ≤ n) => codeG_ok (most := most) (s := (z0, ⟨List.replicate L 1024, En.new⟩)) hq hnear hpm j hj)
  have HMO := Lib.hid hmo
  have HOUT := Lib.hid hout
  obtain ⟨t0, ht0⟩ : ∃ t0 : Pm En, t0 = ⟨List.replicate L 1024, En.new⟩ := ⟨_, rfl⟩
  have HT0 := Lib.hid ht0
  rw [← ht0] at HOK ⊢
  obtain ⟨res, hres⟩ : ∃ r, r = codeG most qs (z0, t0) n := ⟨_, rfl⟩
  rw [← hres]
  have HRES := Lib.hid hres
  clear hw1 hb1 HBk hP hq hn hL hz0 hnear hpm hmo hout h ht0 hres
  go_enter Tryz.func13, Tryz.ntmps13
  go_upto_region 1 with fail
  rw [← HW1.out]
  clear HW1
  go_wp2_with fail
  refine KN.out.mono ?_
  rintro e w2 ⟨g, p, pc, rfl, hz2, hg2, hp2, hb2⟩
  have HB2 := Lib.hid (HB1.out.trans ⟨hb2.os, hb2.tape, hb2.output, hb2.size, fun i hi => hb2.block i (Nat.lt_of_lt_of_le hi HB1.out.size)⟩)
  have HZ2 := Lib.hid hz2
  have HGP := Lib.hid (show w.heap.size ≤ g ∧ w.heap.size ≤ p from ⟨by have := HB1.out.size; omega, by have := HB1.out.size; omega⟩)
  have KE := Lib.hid (rnew5_any w2)
  clear hz2 hg2 hp2 hb2 KN d0 d1 d2 d3 HB1
  go_wp2_with fail
  refine KE.out.mono ?_
  rintro e w3 ⟨rfl, hR, hb3⟩
  have hzz := zn_enc HZ2.out HOUT.out hb3 hR ⟨by omega, Nat.le_refl _⟩
  rw [← HT0.out] at hzz
  have hb3' : Below w.heap.size w w3 := HB2.out.trans ⟨hb3.os, hb3.tape, hb3.output, hb3.size, fun i hi => hb3.block i (Nat.lt_of_lt_of_le hi HB2.out.size)⟩
  have hb4 : Below w.heap.size w (w3.setCell ⟨g, 5, none⟩ (.pointer (some ⟨w2.heap.size + 1, 0, none⟩))) := hb3'.trans ((Only.refl (fun i => i = g) w3).setCell (p := ⟨g, 5, none⟩) (.inl rfl) _ |>.below hb3'.size (by rintro i rfl; exact HGP.out.1))
  have hk3 : Blk w3 g 64 (zCells z0 (.pointer none) (.pointer none) p L pc none 0 0) := HZ2.out.1.below hb3
  have q5 : w3.cell? ⟨g, 5, none⟩ = some (.pointer none) := hk3.cell 5
  have f5 := hk3.free 5
  have hGl : ∀ i, (i = g ∨ i = p ∨ i = w2.heap.size + 1 ∨ i = w2.heap.size) → w.heap.size ≤ i := by
    have := HB2.out.size
    rintro i (rfl | rfl | rfl | rfl)
    · exact HGP.out.1
    · exact HGP.out.2
    · omega
    · omega
  have HGL := Lib.hid hGl
  have HZZ := Lib.hid hzz
  have HB4 := Lib.hid hb4
  clear hR hb3 hb3' hzz hk3 hb4 hGl KE HB2 HZ2 HGP HOUT HT0
  go_upto_region 3 with fail
  generalize w3.setCell ⟨g, 5, none⟩ (.pointer (some ⟨w2.heap.size + 1, 0, none⟩)) = w4 at *
  generalize hG : (fun i => i = g ∨ i = p ∨ i = w2.heap.size + 1 ∨ i = w2.heap.size) = G at *
  have HEND := Lib.hid (fun (wr : World) (z : Lzs) (t : Pm En) (hx : ZAt (fun _ => False) Ke w4 G wr g z t) => show Below w.heap.size w wr by
    obtain ⟨G', _, _, hO⟩ := hx
    exact HB4.out.trans (hO.below HB4.out.size (fun i hi => HGL.out i (by rw [← hG] at hi; exact hi))))
  have HST := Lib.hid (ZAt.begin HZZ.out)
  clear hG q5 f5 HZZ HGL
  have HEO := Lib.hid enc_ops
  have HEM := Lib.hid enc_more
  go_wp2_with fail
  go_loopw [9] (fun iv wr => ∃ j : Nat, j ≤ n ∧ iv = .int .i64 (j : Int) ∧ ZAt (fun _ => False) Ke w4 G wr g (codeG most qs (z0, t0) j).1 (codeG most qs (z0, t0) j).2) (fun iv _ => n - (intOf iv).toNat)
  case atStart => exact ⟨0, Nat.zero_le _, rfl, HST.out⟩
  case round =>
    clear HST
    obtain ⟨j, hj, rfl, hz⟩ := hrel
    by_cases hlt : j < n
    · have glt : (j : Int) < (n : Int) := by omega
      have j0 : (0 : Int) ≤ (j : Int) := by omega
      have ej : IntKind.i64.wrap ((j : Int) + 1) = (j : Int) + 1 := IntWalk.i64_in _ (by have := HN.out; omega)
      obtain ⟨hnr, hpm⟩ := HOK.out j hj
      have hpm : PmOk okE L ((27 * (n - (j + 1))) + 27) (codeG most qs (z0, t0) j).2 := hpm.mono encM_ok (by omega)
      have hstep : codeG most qs (z0, t0) (j + 1) = codeS most (codeG most qs (z0, t0) j) (qs j) := rfl
      generalize codeG most qs (z0, t0) j = s at *
      have hbr := HEND.out _ _ _ hz
      obtain ⟨b, o, rfl, hbw, hcl⟩ := (HP.out.below' hbr) (by omega)
      obtain ⟨l0, l1, l2, l3⟩ := hcl j hlt
      have hql := HQ.out j hlt
      generalize qs j = q at *
      have ea : (((UInt8.ofNat q.a.toNat).toNat : Nat) : Int) = q.a := by
        have := hql.a
        have e : (UInt8.ofNat q.a.toNat).toNat = q.a.toNat := by simp; omega
        rw [e]
        omega
      have ev : ((q.v.toNat : Nat) : Int) = q.v := by have := hql.v; omega
      obtain ⟨A7, c7, m7, _⟩ := hz.told
      have hNj : 0 + 273 * j ≤ 900000 := by have := HN.out; omega
      have KF := fun k => zfits_any HEO.out (hz.drewN HEO.out k) hnr hNj (kd := q.k) (len := q.n) (d := q.v.toNat) (by_ := UInt8.ofNat q.a.toNat) (by have := hql.v; omega)
      rw [ea, ev] at KF
      have hfp : fitsP s.1 q.k q.v.toNat q.n = true → ∀ wc, Only (fun _ => False) wr wc → Calls Tryz.prog 23 #[.pointer (some ⟨g, 0, none⟩), .agg #[.int .i64 q.k, .int .u8 q.a, .int .i64 q.n, .int .u32 q.v]] wc (PackPost (fun _ => False) Ke w4 G g (packP encM s.1 s.2 q.pk)) := by
        intro hf wc hO
        obtain ⟨f1, f2, f3⟩ := fits_pk hql hf
        have := (hz.quiet HEO.out hO).packet HEO.out HEM.out (p := q.pk) hpm hnr hNj f1 f2 f3
        rw [show (((q.pk).byte.toNat : Nat) : Int) = q.a from ea, show (((q.pk).dist : Nat) : Int) = q.v from ev] at this
        exact this
      obtain ⟨ff, hff⟩ : ∃ ff, ff = fitsP s.1 q.k q.v.toNat q.n := ⟨_, rfl⟩
      obtain ⟨tk, htk⟩ : ∃ tk, tk = takesP most s.1 q := ⟨_, rfl⟩
      have htk2 : tk = (ff && decide (IntKind.i64.wrap ((s.1.out.length : Int) + max 1 q.n) ≤ most)) := by rw [htk, hff]; rfl
      have hstep2 : codeG most qs (z0, t0) (j + 1) = if tk = true then (packP encM s.1 s.2 q.pk).2 else s := by rw [hstep, htk]; rfl
      rw [← hff] at KF hfp
      have KF := Lib.hid KF
      have HFP := Lib.hid hfp
      have HSTEP := Lib.hid hstep2
      have HZ := Lib.hid hz
      have HLT := Lib.hid hlt
      have HTK := Lib.hid htk2
      obtain ⟨ln, hln⟩ : ∃ ln, ln = s.1.out.length := ⟨_, rfl⟩
      rw [← hln] at m7 HTK
      have HBR := Lib.hid hbr
      have HBW := Lib.hid hbw
      have HGO := Lib.hid (show g < wr.heap.size by obtain ⟨G', hz, _⟩ := hz; exact hz.old hz.own)
      clear hnr hpm hstep hbr hbw hcl hql ea ev hNj hfp hff htk htk2 hstep2 hz hlt hj hln
      go_upto_region 6 with fail
      go_cut [43] from 16 to 49 (fun v wx => v = .bool tk ∧ Only (fun _ => False) wr wx)
      case first =>
        have htk := HTK.out
        cases ff with
        | false =>
          obtain rfl : tk = false := htk
          refine wp_region_held_drew (S := fun w' => w'.cell? ⟨b, o + j * 4, none⟩ = some (.int .i64 q.k) ∧ w'.cell? ⟨b, o + j * 4 + 1, none⟩ = some (.int .u8 q.a) ∧ w'.cell? ⟨b, o + j * 4 + 2, none⟩ = some (.int .i64 q.n) ∧ w'.cell? ⟨b, o + j * 4 + 3, none⟩ = some (.int .u32 q.v) ∧ w'.cell? ⟨g, 7, none⟩ = some (.slice A7 ln c7)) (by kernel_rfl) ⟨l0, l1, l2, l3, m7⟩ (fun hHeld => ?_)
          refine wpAnyH_take (i := 0) (v := ?_) rfl (by kernel_rfl) (by kernel_rfl) (by kernel_rfl) (fun _ _ _ h => h) (Or.inl ⟨by rfl, ?_⟩) (by assumption) ?_
          rotate_left
          · (intro w hSw; (try dsimp only at hSw); go_simp; try with_reducible rfl)
          try simp only [Act.put, List.setIfInBounds_toArray, List.set_cons_zero, List.set_cons_succ, List.getElem_toArray, List.getElem_cons_zero, List.getElem_cons_succ]
          refine wpAnyH_take (i := 1) (v := ?_) rfl (by kernel_rfl) (by kernel_rfl) (by kernel_rfl) (fun _ _ _ h => h) (Or.inl ⟨by rfl, ?_⟩) (by assumption) ?_
          rotate_left
          · (intro w hSw; (try dsimp only at hSw); go_simp; try with_reducible rfl)
          try simp only [Act.put, List.setIfInBounds_toArray, List.set_cons_zero, List.set_cons_succ, List.getElem_toArray, List.getElem_cons_zero, List.getElem_cons_succ]
          refine wpAnyH_take (i := 2) (v := ?_) rfl (by kernel_rfl) (by kernel_rfl) (by kernel_rfl) (fun _ _ _ h => h) (Or.inl ⟨by rfl, ?_⟩) (by assumption) ?_
          rotate_left
          · (intro w hSw; (try dsimp only at hSw); go_simp; try with_reducible rfl)
          try simp only [Act.put, List.setIfInBounds_toArray, List.set_cons_zero, List.set_cons_succ, List.getElem_toArray, List.getElem_cons_zero, List.getElem_cons_succ]
          refine wpAnyH_take (i := 3) (v := ?_) rfl (by kernel_rfl) (by kernel_rfl) (by kernel_rfl) (fun _ _ _ h => h) (Or.inl ⟨by rfl, ?_⟩) (by assumption) ?_
          rotate_left
          · (intro w hSw; (try dsimp only at hSw); go_simp; try with_reducible rfl)
          try simp only [Act.put, List.setIfInBounds_toArray, List.set_cons_zero, List.set_cons_succ, List.getElem_toArray, List.getElem_cons_zero, List.getElem_cons_succ]
          refine wpAnyH_take (i := 4) (v := ?_) rfl (by kernel_rfl) (by kernel_rfl) (by kernel_rfl) (fun _ _ _ h => h) (Or.inl ⟨by rfl, ?_⟩) (by assumption) ?_
          rotate_left
          · (intro w hSw; (try dsimp only at hSw); go_simp; try with_reducible rfl)
          try simp only [Act.put, List.setIfInBounds_toArray, List.set_cons_zero, List.set_cons_succ, List.getElem_toArray, List.getElem_cons_zero, List.getElem_cons_succ]
          refine wpAnyH_ready (rs := [5]) (by kernel_rfl) (by simp) (AllReadyH.cons (i := 5) rfl (fun K hK => ?_) AllReadyH.nil)
          try simp only [List.getElem_toArray, List.getElem_cons_zero, List.getElem_cons_succ]
          go_simp
          refine (KF.out 1).mono ?_
          rintro e w6 ⟨rfl, hO6⟩
          have hO6 := Only.of_drewN hO6
          have n0 := (hO6.cell (p := ⟨b, o + j * 4, none⟩) (Nat.lt_of_lt_of_le HBW.out HBR.out.size) (fun h => h)).trans l0
          have n1 := (hO6.cell (p := ⟨b, o + j * 4 + 1, none⟩) (Nat.lt_of_lt_of_le HBW.out HBR.out.size) (fun h => h)).trans l1
          have n2 := (hO6.cell (p := ⟨b, o + j * 4 + 2, none⟩) (Nat.lt_of_lt_of_le HBW.out HBR.out.size) (fun h => h)).trans l2
          have n3 := (hO6.cell (p := ⟨b, o + j * 4 + 3, none⟩) (Nat.lt_of_lt_of_le HBW.out HBR.out.size) (fun h => h)).trans l3
          have n7 := (hO6.cell (p := ⟨g, 7, none⟩) HGO.out (fun h => h)).trans m7
          have HO6 := Lib.hid hO6
          clear hO6
          refine hK.out _ _ ⟨n0, n1, n2, n3, n7⟩ (fun hHeld => ?_)
          clear hK K
          try simp only [Act.put, List.setIfInBounds_toArray, List.set_cons_zero, List.set_cons_succ]
          refine wpAnyH_take (i := 6) (v := ?_) rfl (by kernel_rfl) (by kernel_rfl) (by kernel_rfl) (fun _ _ _ h => h) (Or.inl ⟨by rfl, ?_⟩) (by assumption) ?_
          rotate_left
          · (intro w hSw; (try dsimp only at hSw); go_simp; try with_reducible rfl)
          try simp only [Act.put, List.setIfInBounds_toArray, List.set_cons_zero, List.set_cons_succ, List.getElem_toArray, List.getElem_cons_zero, List.getElem_cons_succ]
          refine wpAnyH_take (i := 7) (v := undef) rfl (by kernel_rfl) (by kernel_rfl) (by kernel_rfl) (fun _ _ _ h => h) (Or.inr ⟨by rfl, rfl⟩) (by assumption) ?_
          try simp only [Act.put, List.setIfInBounds_toArray, List.set_cons_zero, List.set_cons_succ, List.getElem_toArray, List.getElem_cons_zero, List.getElem_cons_succ]
          refine wpAnyH_take (i := 8) (v := undef) rfl (by kernel_rfl) (by kernel_rfl) (by kernel_rfl) (fun _ _ _ h => h) (Or.inr ⟨by rfl, rfl⟩) (by assumption) ?_
          try simp only [Act.put, List.setIfInBounds_toArray, List.set_cons_zero, List.set_cons_succ, List.getElem_toArray, List.getElem_cons_zero, List.getElem_cons_succ]
          refine wpAnyH_take (i := 9) (v := undef) rfl (by kernel_rfl) (by kernel_rfl) (by kernel_rfl) (fun _ _ _ h => h) (Or.inr ⟨by rfl, rfl⟩) (by assumption) ?_
          try simp only [Act.put, List.setIfInBounds_toArray, List.set_cons_zero, List.set_cons_succ, List.getElem_toArray, List.getElem_cons_zero, List.getElem_cons_succ]
          refine wpAnyH_take (i := 10) (v := undef) rfl (by kernel_rfl) (by kernel_rfl) (by kernel_rfl) (fun _ _ _ h => h) (Or.inr ⟨by rfl, rfl⟩) (by assumption) ?_
          try simp only [Act.put, List.setIfInBounds_toArray, List.set_cons_zero, List.set_cons_succ, List.getElem_toArray, List.getElem_cons_zero, List.getElem_cons_succ]
          refine wpAnyH_take (i := 11) (v := undef) rfl (by kernel_rfl) (by kernel_rfl) (by kernel_rfl) (fun _ _ _ h => h) (Or.inr ⟨by rfl, rfl⟩) (by assumption) ?_
          try simp only [Act.put, List.setIfInBounds_toArray, List.set_cons_zero, List.set_cons_succ, List.getElem_toArray, List.getElem_cons_zero, List.getElem_cons_succ]
          refine wpAnyH_take (i := 12) (v := undef) rfl (by kernel_rfl) (by kernel_rfl) (by kernel_rfl) (fun _ _ _ h => h) (Or.inr ⟨by rfl, rfl⟩) (by assumption) ?_
          try simp only [Act.put, List.setIfInBounds_toArray, List.set_cons_zero, List.set_cons_succ, List.getElem_toArray, List.getElem_cons_zero, List.getElem_cons_succ]
          refine wpAnyH_take (i := 13) (v := undef) rfl (by kernel_rfl) (by kernel_rfl) (by kernel_rfl) (fun _ _ _ h => h) (Or.inr ⟨by rfl, rfl⟩) (by assumption) ?_
          try simp only [Act.put, List.setIfInBounds_toArray, List.set_cons_zero, List.set_cons_succ, List.getElem_toArray, List.getElem_cons_zero, List.getElem_cons_succ]
          refine wpAnyH_take (i := 14) (v := undef) rfl (by kernel_rfl) (by kernel_rfl) (by kernel_rfl) (fun _ _ _ h => h) (Or.inr ⟨by rfl, rfl⟩) (by assumption) ?_
          try simp only [Act.put, List.setIfInBounds_toArray, List.set_cons_zero, List.set_cons_succ, List.getElem_toArray, List.getElem_cons_zero, List.getElem_cons_succ]
          refine wpAnyH_take (i := 15) (v := undef) rfl (by kernel_rfl) (by kernel_rfl) (by kernel_rfl) (fun _ _ _ h => h) (Or.inr ⟨by rfl, rfl⟩) (by assumption) ?_
          try simp only [Act.put, List.setIfInBounds_toArray, List.set_cons_zero, List.set_cons_succ, List.getElem_toArray, List.getElem_cons_zero, List.getElem_cons_succ]
          refine wpAnyH_take (i := 16) (v := undef) rfl (by kernel_rfl) (by kernel_rfl) (by kernel_rfl) (fun _ _ _ h => h) (Or.inr ⟨by rfl, rfl⟩) (by assumption) ?_
          try simp only [Act.put, List.setIfInBounds_toArray, List.set_cons_zero, List.set_cons_succ, List.getElem_toArray, List.getElem_cons_zero, List.getElem_cons_succ]
          refine wpAnyH_take (i := 17) (v := undef) rfl (by kernel_rfl) (by kernel_rfl) (by kernel_rfl) (fun _ _ _ h => h) (Or.inr ⟨by rfl, rfl⟩) (by assumption) ?_
          try simp only [Act.put, List.setIfInBounds_toArray, List.set_cons_zero, List.set_cons_succ, List.getElem_toArray, List.getElem_cons_zero, List.getElem_cons_succ]
          refine wpAnyH_take (i := 18) (v := undef) rfl (by kernel_rfl) (by kernel_rfl) (by kernel_rfl) (fun _ _ _ h => h) (Or.inr ⟨by rfl, rfl⟩) (by assumption) ?_
          try simp only [Act.put, List.setIfInBounds_toArray, List.set_cons_zero, List.set_cons_succ, List.getElem_toArray, List.getElem_cons_zero, List.getElem_cons_succ]
          refine wpAnyH_take (i := 19) (v := undef) rfl (by kernel_rfl) (by kernel_rfl) (by kernel_rfl) (fun _ _ _ h => h) (Or.inr ⟨by rfl, rfl⟩) (by assumption) ?_
          try simp only [Act.put, List.setIfInBounds_toArray, List.set_cons_zero, List.set_cons_succ, List.getElem_toArray, List.getElem_cons_zero, List.getElem_cons_succ]
          refine wpAnyH_take (i := 20) (v := undef) rfl (by kernel_rfl) (by kernel_rfl) (by kernel_rfl) (fun _ _ _ h => h) (Or.inr ⟨by rfl, rfl⟩) (by assumption) ?_
          try simp only [Act.put, List.setIfInBounds_toArray, List.set_cons_zero, List.set_cons_succ, List.getElem_toArray, List.getElem_cons_zero, List.getElem_cons_succ]
          refine wpAnyH_take (i := 21) (v := ?_) rfl (by kernel_rfl) (by kernel_rfl) (by kernel_rfl) (fun _ _ _ h => h) (Or.inl ⟨by rfl, ?_⟩) (by assumption) ?_
          rotate_left
          · (intro w hSw; (try dsimp only at hSw); go_simp; try with_reducible rfl)
          try simp only [Act.put, List.setIfInBounds_toArray, List.set_cons_zero, List.set_cons_succ, List.getElem_toArray, List.getElem_cons_zero, List.getElem_cons_succ]
          refine wpAnyH_done (by kernel_rfl) ?_ _
          go_wp2_with fail
          go_meet
          exact ⟨rfl, HO6.out⟩
        | true =>
          obtain ⟨sm, hsm⟩ : ∃ sm, sm = IntKind.i64.wrap ((ln : Int) + max 1 q.n) := ⟨_, rfl⟩
          rw [← hsm] at htk
          have e1 : IntKind.i64.wrap ((ln : Int) + max 1 q.n) = sm := hsm.symm
          have e2 : wrap64 ((ln : Int) + max 1 q.n) = sm := (IntWalk.i64_left _).symm.trans e1
          clear hsm
          by_cases hle : sm ≤ most
          · obtain rfl : tk = true := by rw [htk, decide_eq_true hle]; rfl
            clear htk
            refine wp_region_held_drew (S := fun w' => w'.cell? ⟨b, o + j * 4, none⟩ = some (.int .i64 q.k) ∧ w'.cell? ⟨b, o + j * 4 + 1, none⟩ = some (.int .u8 q.a) ∧ w'.cell? ⟨b, o + j * 4 + 2, none⟩ = some (.int .i64 q.n) ∧ w'.cell? ⟨b, o + j * 4 + 3, none⟩ = some (.int .u32 q.v) ∧ w'.cell? ⟨g, 7, none⟩ = some (.slice A7 ln c7)) (by kernel_rfl) ⟨l0, l1, l2, l3, m7⟩ (fun hHeld => ?_)
            refine wpAnyH_take (i := 0) (v := ?_) rfl (by kernel_rfl) (by kernel_rfl) (by kernel_rfl) (fun _ _ _ h => h) (Or.inl ⟨by rfl, ?_⟩) (by assumption) ?_
            rotate_left
            · (intro w hSw; (try dsimp only at hSw); go_simp; try with_reducible rfl)
            try simp only [Act.put, List.setIfInBounds_toArray, List.set_cons_zero, List.set_cons_succ, List.getElem_toArray, List.getElem_cons_zero, List.getElem_cons_succ]
            refine wpAnyH_take (i := 1) (v := ?_) rfl (by kernel_rfl) (by kernel_rfl) (by kernel_rfl) (fun _ _ _ h => h) (Or.inl ⟨by rfl, ?_⟩) (by assumption) ?_
            rotate_left
            · (intro w hSw; (try dsimp only at hSw); go_simp; try with_reducible rfl)
            try simp only [Act.put, List.setIfInBounds_toArray, List.set_cons_zero, List.set_cons_succ, List.getElem_toArray, List.getElem_cons_zero, List.getElem_cons_succ]
            refine wpAnyH_take (i := 2) (v := ?_) rfl (by kernel_rfl) (by kernel_rfl) (by kernel_rfl) (fun _ _ _ h => h) (Or.inl ⟨by rfl, ?_⟩) (by assumption) ?_
            rotate_left
            · (intro w hSw; (try dsimp only at hSw); go_simp; try with_reducible rfl)
            try simp only [Act.put, List.setIfInBounds_toArray, List.set_cons_zero, List.set_cons_succ, List.getElem_toArray, List.getElem_cons_zero, List.getElem_cons_succ]
            refine wpAnyH_take (i := 3) (v := ?_) rfl (by kernel_rfl) (by kernel_rfl) (by kernel_rfl) (fun _ _ _ h => h) (Or.inl ⟨by rfl, ?_⟩) (by assumption) ?_
            rotate_left
            · (intro w hSw; (try dsimp only at hSw); go_simp; try with_reducible rfl)
            try simp only [Act.put, List.setIfInBounds_toArray, List.set_cons_zero, List.set_cons_succ, List.getElem_toArray, List.getElem_cons_zero, List.getElem_cons_succ]
            refine wpAnyH_take (i := 4) (v := ?_) rfl (by kernel_rfl) (by kernel_rfl) (by kernel_rfl) (fun _ _ _ h => h) (Or.inl ⟨by rfl, ?_⟩) (by assumption) ?_
            rotate_left
            · (intro w hSw; (try dsimp only at hSw); go_simp; try with_reducible rfl)
            try simp only [Act.put, List.setIfInBounds_toArray, List.set_cons_zero, List.set_cons_succ, List.getElem_toArray, List.getElem_cons_zero, List.getElem_cons_succ]
            refine wpAnyH_ready (rs := [5]) (by kernel_rfl) (by simp) (AllReadyH.cons (i := 5) rfl (fun K hK => ?_) AllReadyH.nil)
            try simp only [List.getElem_toArray, List.getElem_cons_zero, List.getElem_cons_succ]
            go_simp
            refine (KF.out 1).mono ?_
            rintro e w6 ⟨rfl, hO6⟩
            have hO6 := Only.of_drewN hO6
            have n0 := (hO6.cell (p := ⟨b, o + j * 4, none⟩) (Nat.lt_of_lt_of_le HBW.out HBR.out.size) (fun h => h)).trans l0
            have n1 := (hO6.cell (p := ⟨b, o + j * 4 + 1, none⟩) (Nat.lt_of_lt_of_le HBW.out HBR.out.size) (fun h => h)).trans l1
            have n2 := (hO6.cell (p := ⟨b, o + j * 4 + 2, none⟩) (Nat.lt_of_lt_of_le HBW.out HBR.out.size) (fun h => h)).trans l2
            have n3 := (hO6.cell (p := ⟨b, o + j * 4 + 3, none⟩) (Nat.lt_of_lt_of_le HBW.out HBR.out.size) (fun h => h)).trans l3
            have n7 := (hO6.cell (p := ⟨g, 7, none⟩) HGO.out (fun h => h)).trans m7
            have HO6 := Lib.hid hO6
            clear hO6
            refine hK.out _ _ ⟨n0, n1, n2, n3, n7⟩ (fun hHeld => ?_)
            clear hK K
            try simp only [Act.put, List.setIfInBounds_toArray, List.set_cons_zero, List.set_cons_succ]
            refine wpAnyH_take (i := 6) (v := ?_) rfl (by kernel_rfl) (by kernel_rfl) (by kernel_rfl) (fun _ _ _ h => h) (Or.inl ⟨by rfl, ?_⟩) (by assumption) ?_
            rotate_left
            · (intro w hSw; (try dsimp only at hSw); go_simp; try with_reducible rfl)
            try simp only [Act.put, List.setIfInBounds_toArray, List.set_cons_zero, List.set_cons_succ, List.getElem_toArray, List.getElem_cons_zero, List.getElem_cons_succ]
            refine wpAnyH_take (i := 7) (v := ?_) rfl (by kernel_rfl) (by kernel_rfl) (by kernel_rfl) (fun _ _ _ h => h) (Or.inl ⟨by rfl, ?_⟩) (by assumption) ?_
            rotate_left
            · (intro w hSw; (try dsimp only at hSw); go_simp; try with_reducible rfl)
            try simp only [Act.put, List.setIfInBounds_toArray, List.set_cons_zero, List.set_cons_succ, List.getElem_toArray, List.getElem_cons_zero, List.getElem_cons_succ]
            refine wpAnyH_take (i := 8) (v := ?_) rfl (by kernel_rfl) (by kernel_rfl) (by kernel_rfl) (fun _ _ _ h => h) (Or.inl ⟨by rfl, ?_⟩) (by assumption) ?_
            rotate_left
            · (intro w hSw; (try dsimp only at hSw); go_simp; try with_reducible rfl)
            try simp only [Act.put, List.setIfInBounds_toArray, List.set_cons_zero, List.set_cons_succ, List.getElem_toArray, List.getElem_cons_zero, List.getElem_cons_succ]
            refine wpAnyH_take (i := 9) (v := ?_) rfl (by kernel_rfl) (by kernel_rfl) (by kernel_rfl) (fun _ _ _ h => h) (Or.inl ⟨by rfl, ?_⟩) (by assumption) ?_
            rotate_left
            · (intro w hSw; (try dsimp only at hSw); go_simp; try with_reducible rfl)
            try simp only [Act.put, List.setIfInBounds_toArray, List.set_cons_zero, List.set_cons_succ, List.getElem_toArray, List.getElem_cons_zero, List.getElem_cons_succ]
            refine wpAnyH_take (i := 10) (v := ?_) rfl (by kernel_rfl) (by kernel_rfl) (by kernel_rfl) (fun _ _ _ h => h) (Or.inl ⟨by rfl, ?_⟩) (by assumption) ?_
            rotate_left
            · (intro w hSw; (try dsimp only at hSw); go_simp; try with_reducible rfl)
            try simp only [Act.put, List.setIfInBounds_toArray, List.set_cons_zero, List.set_cons_succ, List.getElem_toArray, List.getElem_cons_zero, List.getElem_cons_succ]
            refine wpAnyH_take (i := 11) (v := ?_) rfl (by kernel_rfl) (by kernel_rfl) (by kernel_rfl) (fun _ _ _ h => h) (Or.inl ⟨by rfl, ?_⟩) (by assumption) ?_
            rotate_left
            · (intro w hSw; (try dsimp only at hSw); go_simp; try with_reducible rfl)
            try simp only [Act.put, List.setIfInBounds_toArray, List.set_cons_zero, List.set_cons_succ, List.getElem_toArray, List.getElem_cons_zero, List.getElem_cons_succ]
            refine wpAnyH_take (i := 12) (v := ?_) rfl (by kernel_rfl) (by kernel_rfl) (by kernel_rfl) (fun _ _ _ h => h) (Or.inl ⟨by rfl, ?_⟩) (by assumption) ?_
            rotate_left
            · (intro w hSw; (try dsimp only at hSw); go_simp; try with_reducible rfl)
            try simp only [Act.put, List.setIfInBounds_toArray, List.set_cons_zero, List.set_cons_succ, List.getElem_toArray, List.getElem_cons_zero, List.getElem_cons_succ]
            refine wpAnyH_take (i := 13) (v := ?_) rfl (by kernel_rfl) (by kernel_rfl) (by kernel_rfl) (fun _ _ _ h => h) (Or.inl ⟨by rfl, ?_⟩) (by assumption) ?_
            rotate_left
            · (intro w hSw; (try dsimp only at hSw); go_simp; try with_reducible rfl)
            try simp only [Act.put, List.setIfInBounds_toArray, List.set_cons_zero, List.set_cons_succ, List.getElem_toArray, List.getElem_cons_zero, List.getElem_cons_succ]
            refine wpAnyH_take (i := 14) (v := ?_) rfl (by kernel_rfl) (by kernel_rfl) (by kernel_rfl) (fun _ _ _ h => h) (Or.inl ⟨by rfl, ?_⟩) (by assumption) ?_
            rotate_left
            · (intro w hSw; (try dsimp only at hSw); go_simp; try with_reducible rfl)
            try simp only [Act.put, List.setIfInBounds_toArray, List.set_cons_zero, List.set_cons_succ, List.getElem_toArray, List.getElem_cons_zero, List.getElem_cons_succ]
            refine wpAnyH_take (i := 15) (v := ?_) rfl (by kernel_rfl) (by kernel_rfl) (by kernel_rfl) (fun _ _ _ h => h) (Or.inl ⟨by rfl, ?_⟩) (by assumption) ?_
            rotate_left
            · (intro w hSw; (try dsimp only at hSw); go_simp; try with_reducible rfl)
            try simp only [Act.put, List.setIfInBounds_toArray, List.set_cons_zero, List.set_cons_succ, List.getElem_toArray, List.getElem_cons_zero, List.getElem_cons_succ]
            refine wpAnyH_take (i := 16) (v := ?_) rfl (by kernel_rfl) (by kernel_rfl) (by kernel_rfl) (fun _ _ _ h => h) (Or.inl ⟨by rfl, ?_⟩) (by assumption) ?_
            rotate_left
            · (intro w hSw; (try dsimp only at hSw); go_simp; try with_reducible rfl)
            try simp only [Act.put, List.setIfInBounds_toArray, List.set_cons_zero, List.set_cons_succ, List.getElem_toArray, List.getElem_cons_zero, List.getElem_cons_succ]
            refine wpAnyH_take (i := 17) (v := ?_) rfl (by kernel_rfl) (by kernel_rfl) (by kernel_rfl) (fun _ _ _ h => h) (Or.inl ⟨by rfl, ?_⟩) (by assumption) ?_
            rotate_left
            · (intro w hSw; (try dsimp only at hSw); go_simp; try with_reducible rfl)
            try simp only [Act.put, List.setIfInBounds_toArray, List.set_cons_zero, List.set_cons_succ, List.getElem_toArray, List.getElem_cons_zero, List.getElem_cons_succ]
            refine wpAnyH_take (i := 18) (v := ?_) rfl (by kernel_rfl) (by kernel_rfl) (by kernel_rfl) (fun _ _ _ h => h) (Or.inl ⟨by rfl, ?_⟩) (by assumption) ?_
            rotate_left
            · (intro w hSw; (try dsimp only at hSw); go_simp; try with_reducible rfl)
            try simp only [Act.put, List.setIfInBounds_toArray, List.set_cons_zero, List.set_cons_succ, List.getElem_toArray, List.getElem_cons_zero, List.getElem_cons_succ]
            refine wpAnyH_take (i := 19) (v := ?_) rfl (by kernel_rfl) (by kernel_rfl) (by kernel_rfl) (fun _ _ _ h => h) (Or.inl ⟨by rfl, ?_⟩) (by assumption) ?_
            rotate_left
            · (intro w hSw; (try dsimp only at hSw); go_simp; try with_reducible rfl)
            try simp only [Act.put, List.setIfInBounds_toArray, List.set_cons_zero, List.set_cons_succ, List.getElem_toArray, List.getElem_cons_zero, List.getElem_cons_succ]
            refine wpAnyH_take (i := 20) (v := ?_) rfl (by kernel_rfl) (by kernel_rfl) (by kernel_rfl) (fun _ _ _ h => h) (Or.inl ⟨by rfl, ?_⟩) (by assumption) ?_
            rotate_left
            · (intro w hSw; (try dsimp only at hSw); go_simp; try with_reducible rfl)
            try simp only [Act.put, List.setIfInBounds_toArray, List.set_cons_zero, List.set_cons_succ, List.getElem_toArray, List.getElem_cons_zero, List.getElem_cons_succ]
            refine wpAnyH_take (i := 21) (v := ?_) rfl (by kernel_rfl) (by kernel_rfl) (by kernel_rfl) (fun _ _ _ h => h) (Or.inl ⟨by rfl, ?_⟩) (by assumption) ?_
            rotate_left
            · (intro w hSw; (try dsimp only at hSw); go_simp; try with_reducible rfl)
            try simp only [Act.put, List.setIfInBounds_toArray, List.set_cons_zero, List.set_cons_succ, List.getElem_toArray, List.getElem_cons_zero, List.getElem_cons_succ]
            refine wpAnyH_done (by kernel_rfl) ?_ _
            go_wp2_with fail
            go_meet
            exact ⟨rfl, HO6.out⟩
          · obtain rfl : tk = false := by rw [htk, decide_eq_false hle]; rfl
            clear htk
            refine wp_region_held_drew (S := fun w' => w'.cell? ⟨b, o + j * 4, none⟩ = some (.int .i64 q.k) ∧ w'.cell? ⟨b, o + j * 4 + 1, none⟩ = some (.int .u8 q.a) ∧ w'.cell? ⟨b, o + j * 4 + 2, none⟩ = some (.int .i64 q.n) ∧ w'.cell? ⟨b, o + j * 4 + 3, none⟩ = some (.int .u32 q.v) ∧ w'.cell? ⟨g, 7, none⟩ = some (.slice A7 ln c7)) (by kernel_rfl) ⟨l0, l1, l2, l3, m7⟩ (fun hHeld => ?_)
            refine wpAnyH_take (i := 0) (v := ?_) rfl (by kernel_rfl) (by kernel_rfl) (by kernel_rfl) (fun _ _ _ h => h) (Or.inl ⟨by rfl, ?_⟩) (by assumption) ?_
            rotate_left
            · (intro w hSw; (try dsimp only at hSw); go_simp; try with_reducible rfl)
            try simp only [Act.put, List.setIfInBounds_toArray, List.set_cons_zero, List.set_cons_succ, List.getElem_toArray, List.getElem_cons_zero, List.getElem_cons_succ]
            refine wpAnyH_take (i := 1) (v := ?_) rfl (by kernel_rfl) (by kernel_rfl) (by kernel_rfl) (fun _ _ _ h => h) (Or.inl ⟨by rfl, ?_⟩) (by assumption) ?_
            rotate_left
            · (intro w hSw; (try dsimp only at hSw); go_simp; try with_reducible rfl)
            try simp only [Act.put, List.setIfInBounds_toArray, List.set_cons_zero, List.set_cons_succ, List.getElem_toArray, List.getElem_cons_zero, List.getElem_cons_succ]
            refine wpAnyH_take (i := 2) (v := ?_) rfl (by kernel_rfl) (by kernel_rfl) (by kernel_rfl) (fun _ _ _ h => h) (Or.inl ⟨by rfl, ?_⟩) (by assumption) ?_
            rotate_left
            · (intro w hSw; (try dsimp only at hSw); go_simp; try with_reducible rfl)
            try simp only [Act.put, List.setIfInBounds_toArray, List.set_cons_zero, List.set_cons_succ, List.getElem_toArray, List.getElem_cons_zero, List.getElem_cons_succ]
            refine wpAnyH_take (i := 3) (v := ?_) rfl (by kernel_rfl) (by kernel_rfl) (by kernel_rfl) (fun _ _ _ h => h) (Or.inl ⟨by rfl, ?_⟩) (by assumption) ?_
            rotate_left
            · (intro w hSw; (try dsimp only at hSw); go_simp; try with_reducible rfl)
            try simp only [Act.put, List.setIfInBounds_toArray, List.set_cons_zero, List.set_cons_succ, List.getElem_toArray, List.getElem_cons_zero, List.getElem_cons_succ]
            refine wpAnyH_take (i := 4) (v := ?_) rfl (by kernel_rfl) (by kernel_rfl) (by kernel_rfl) (fun _ _ _ h => h) (Or.inl ⟨by rfl, ?_⟩) (by assumption) ?_
            rotate_left
            · (intro w hSw; (try dsimp only at hSw); go_simp; try with_reducible rfl)
            try simp only [Act.put, List.setIfInBounds_toArray, List.set_cons_zero, List.set_cons_succ, List.getElem_toArray, List.getElem_cons_zero, List.getElem_cons_succ]
            refine wpAnyH_ready (rs := [5]) (by kernel_rfl) (by simp) (AllReadyH.cons (i := 5) rfl (fun K hK => ?_) AllReadyH.nil)
            try simp only [List.getElem_toArray, List.getElem_cons_zero, List.getElem_cons_succ]
            go_simp
            refine (KF.out 1).mono ?_
            rintro e w6 ⟨rfl, hO6⟩
            have hO6 := Only.of_drewN hO6
            have n0 := (hO6.cell (p := ⟨b, o + j * 4, none⟩) (Nat.lt_of_lt_of_le HBW.out HBR.out.size) (fun h => h)).trans l0
            have n1 := (hO6.cell (p := ⟨b, o + j * 4 + 1, none⟩) (Nat.lt_of_lt_of_le HBW.out HBR.out.size) (fun h => h)).trans l1
            have n2 := (hO6.cell (p := ⟨b, o + j * 4 + 2, none⟩) (Nat.lt_of_lt_of_le HBW.out HBR.out.size) (fun h => h)).trans l2
            have n3 := (hO6.cell (p := ⟨b, o + j * 4 + 3, none⟩) (Nat.lt_of_lt_of_le HBW.out HBR.out.size) (fun h => h)).trans l3
            have n7 := (hO6.cell (p := ⟨g, 7, none⟩) HGO.out (fun h => h)).trans m7
            have HO6 := Lib.hid hO6
            clear hO6
            refine hK.out _ _ ⟨n0, n1, n2, n3, n7⟩ (fun hHeld => ?_)
            clear hK K
            try simp only [Act.put, List.setIfInBounds_toArray, List.set_cons_zero, List.set_cons_succ]
            refine wpAnyH_take (i := 6) (v := ?_) rfl (by kernel_rfl) (by kernel_rfl) (by kernel_rfl) (fun _ _ _ h => h) (Or.inl ⟨by rfl, ?_⟩) (by assumption) ?_
            rotate_left
            · (intro w hSw; (try dsimp only at hSw); go_simp; try with_reducible rfl)
            try simp only [Act.put, List.setIfInBounds_toArray, List.set_cons_zero, List.set_cons_succ, List.getElem_toArray, List.getElem_cons_zero, List.getElem_cons_succ]
            refine wpAnyH_take (i := 7) (v := ?_) rfl (by kernel_rfl) (by kernel_rfl) (by kernel_rfl) (fun _ _ _ h => h) (Or.inl ⟨by rfl, ?_⟩) (by assumption) ?_
            rotate_left
            · (intro w hSw; (try dsimp only at hSw); go_simp; try with_reducible rfl)
            try simp only [Act.put, List.setIfInBounds_toArray, List.set_cons_zero, List.set_cons_succ, List.getElem_toArray, List.getElem_cons_zero, List.getElem_cons_succ]
            refine wpAnyH_take (i := 8) (v := ?_) rfl (by kernel_rfl) (by kernel_rfl) (by kernel_rfl) (fun _ _ _ h => h) (Or.inl ⟨by rfl, ?_⟩) (by assumption) ?_
            rotate_left
            · (intro w hSw; (try dsimp only at hSw); go_simp; try with_reducible rfl)
            try simp only [Act.put, List.setIfInBounds_toArray, List.set_cons_zero, List.set_cons_succ, List.getElem_toArray, List.getElem_cons_zero, List.getElem_cons_succ]
            refine wpAnyH_take (i := 9) (v := ?_) rfl (by kernel_rfl) (by kernel_rfl) (by kernel_rfl) (fun _ _ _ h => h) (Or.inl ⟨by rfl, ?_⟩) (by assumption) ?_
            rotate_left
            · (intro w hSw; (try dsimp only at hSw); go_simp; try with_reducible rfl)
            try simp only [Act.put, List.setIfInBounds_toArray, List.set_cons_zero, List.set_cons_succ, List.getElem_toArray, List.getElem_cons_zero, List.getElem_cons_succ]
            refine wpAnyH_take (i := 10) (v := ?_) rfl (by kernel_rfl) (by kernel_rfl) (by kernel_rfl) (fun _ _ _ h => h) (Or.inl ⟨by rfl, ?_⟩) (by assumption) ?_
            rotate_left
            · (intro w hSw; (try dsimp only at hSw); go_simp; try with_reducible rfl)
            try simp only [Act.put, List.setIfInBounds_toArray, List.set_cons_zero, List.set_cons_succ, List.getElem_toArray, List.getElem_cons_zero, List.getElem_cons_succ]
            refine wpAnyH_take (i := 11) (v := ?_) rfl (by kernel_rfl) (by kernel_rfl) (by kernel_rfl) (fun _ _ _ h => h) (Or.inl ⟨by rfl, ?_⟩) (by assumption) ?_
            rotate_left
            · (intro w hSw; (try dsimp only at hSw); go_simp; try with_reducible rfl)
            try simp only [Act.put, List.setIfInBounds_toArray, List.set_cons_zero, List.set_cons_succ, List.getElem_toArray, List.getElem_cons_zero, List.getElem_cons_succ]
            refine wpAnyH_take (i := 12) (v := ?_) rfl (by kernel_rfl) (by kernel_rfl) (by kernel_rfl) (fun _ _ _ h => h) (Or.inl ⟨by rfl, ?_⟩) (by assumption) ?_
            rotate_left
            · (intro w hSw; (try dsimp only at hSw); go_simp; try with_reducible rfl)
            try simp only [Act.put, List.setIfInBounds_toArray, List.set_cons_zero, List.set_cons_succ, List.getElem_toArray, List.getElem_cons_zero, List.getElem_cons_succ]
            refine wpAnyH_take (i := 13) (v := ?_) rfl (by kernel_rfl) (by kernel_rfl) (by kernel_rfl) (fun _ _ _ h => h) (Or.inl ⟨by rfl, ?_⟩) (by assumption) ?_
            rotate_left
            · (intro w hSw; (try dsimp only at hSw); go_simp; try with_reducible rfl)
            try simp only [Act.put, List.setIfInBounds_toArray, List.set_cons_zero, List.set_cons_succ, List.getElem_toArray, List.getElem_cons_zero, List.getElem_cons_succ]
            refine wpAnyH_take (i := 14) (v := ?_) rfl (by kernel_rfl) (by kernel_rfl) (by kernel_rfl) (fun _ _ _ h => h) (Or.inl ⟨by rfl, ?_⟩) (by assumption) ?_
            rotate_left
            · (intro w hSw; (try dsimp only at hSw); go_simp; try with_reducible rfl)
            try simp only [Act.put, List.setIfInBounds_toArray, List.set_cons_zero, List.set_cons_succ, List.getElem_toArray, List.getElem_cons_zero, List.getElem_cons_succ]
            refine wpAnyH_take (i := 15) (v := ?_) rfl (by kernel_rfl) (by kernel_rfl) (by kernel_rfl) (fun _ _ _ h => h) (Or.inl ⟨by rfl, ?_⟩) (by assumption) ?_
            rotate_left
            · (intro w hSw; (try dsimp only at hSw); go_simp; try with_reducible rfl)
            try simp only [Act.put, List.setIfInBounds_toArray, List.set_cons_zero, List.set_cons_succ, List.getElem_toArray, List.getElem_cons_zero, List.getElem_cons_succ]
            refine wpAnyH_take (i := 16) (v := ?_) rfl (by kernel_rfl) (by kernel_rfl) (by kernel_rfl) (fun _ _ _ h => h) (Or.inl ⟨by rfl, ?_⟩) (by assumption) ?_
            rotate_left
            · (intro w hSw; (try dsimp only at hSw); go_simp; try with_reducible rfl)
            try simp only [Act.put, List.setIfInBounds_toArray, List.set_cons_zero, List.set_cons_succ, List.getElem_toArray, List.getElem_cons_zero, List.getElem_cons_succ]
            refine wpAnyH_take (i := 17) (v := ?_) rfl (by kernel_rfl) (by kernel_rfl) (by kernel_rfl) (fun _ _ _ h => h) (Or.inl ⟨by rfl, ?_⟩) (by assumption) ?_
            rotate_left
            · (intro w hSw; (try dsimp only at hSw); go_simp; try with_reducible rfl)
            try simp only [Act.put, List.setIfInBounds_toArray, List.set_cons_zero, List.set_cons_succ, List.getElem_toArray, List.getElem_cons_zero, List.getElem_cons_succ]
            refine wpAnyH_take (i := 18) (v := ?_) rfl (by kernel_rfl) (by kernel_rfl) (by kernel_rfl) (fun _ _ _ h => h) (Or.inl ⟨by rfl, ?_⟩) (by assumption) ?_
            rotate_left
            · (intro w hSw; (try dsimp only at hSw); go_simp; try with_reducible rfl)
            try simp only [Act.put, List.setIfInBounds_toArray, List.set_cons_zero, List.set_cons_succ, List.getElem_toArray, List.getElem_cons_zero, List.getElem_cons_succ]
            refine wpAnyH_take (i := 19) (v := ?_) rfl (by kernel_rfl) (by kernel_rfl) (by kernel_rfl) (fun _ _ _ h => h) (Or.inl ⟨by rfl, ?_⟩) (by assumption) ?_
            rotate_left
            · (intro w hSw; (try dsimp only at hSw); go_simp; try with_reducible rfl)
            try simp only [Act.put, List.setIfInBounds_toArray, List.set_cons_zero, List.set_cons_succ, List.getElem_toArray, List.getElem_cons_zero, List.getElem_cons_succ]
            refine wpAnyH_take (i := 20) (v := ?_) rfl (by kernel_rfl) (by kernel_rfl) (by kernel_rfl) (fun _ _ _ h => h) (Or.inl ⟨by rfl, ?_⟩) (by assumption) ?_
            rotate_left
            · (intro w hSw; (try dsimp only at hSw); go_simp; try with_reducible rfl)
            try simp only [Act.put, List.setIfInBounds_toArray, List.set_cons_zero, List.set_cons_succ, List.getElem_toArray, List.getElem_cons_zero, List.getElem_cons_succ]
            refine wpAnyH_take (i := 21) (v := ?_) rfl (by kernel_rfl) (by kernel_rfl) (by kernel_rfl) (fun _ _ _ h => h) (Or.inl ⟨by rfl, ?_⟩) (by assumption) ?_
            rotate_left
            · (intro w hSw; (try dsimp only at hSw); go_simp; try with_reducible rfl)
            try simp only [Act.put, List.setIfInBounds_toArray, List.set_cons_zero, List.set_cons_succ, List.getElem_toArray, List.getElem_cons_zero, List.getElem_cons_succ]
            refine wpAnyH_done (by kernel_rfl) ?_ _
            go_wp2_with fail
            go_meet
            exact ⟨rfl, HO6.out⟩
      case rest =>
        obtain ⟨rfl, hO⟩ := hcut
        have HOC := Lib.hid hO
        have n0 := (hO.cell (p := ⟨b, o + j * 4, none⟩) (Nat.lt_of_lt_of_le HBW.out HBR.out.size) (fun h => h)).trans l0
        have n1 := (hO.cell (p := ⟨b, o + j * 4 + 1, none⟩) (Nat.lt_of_lt_of_le HBW.out HBR.out.size) (fun h => h)).trans l1
        have n2 := (hO.cell (p := ⟨b, o + j * 4 + 2, none⟩) (Nat.lt_of_lt_of_le HBW.out HBR.out.size) (fun h => h)).trans l2
        have n3 := (hO.cell (p := ⟨b, o + j * 4 + 3, none⟩) (Nat.lt_of_lt_of_le HBW.out HBR.out.size) (fun h => h)).trans l3
        clear hO l0 l1 l2 l3 m7 KF
        cases tk with
        | true =>
          have hff : ff = true := by
            have := HTK.out
            revert this
            cases ff <;> simp
          have KP := Lib.hid (HFP.out hff wc HOC.out)
          have hst : codeG most qs (z0, t0) (j + 1) = (packP encM s.1 s.2 q.pk).2 := HSTEP.out
          generalize packP encM s.1 s.2 q.pk = r at *
          have HS2 := Lib.hid hst
          clear hst HFP HSTEP HTK hff
          go_wp2_with fail
          refine KP.out.mono ?_
          rintro e w7 ⟨rfl, hz7⟩
          have HZ7 := Lib.hid hz7
          clear hz7 KP n0 n1 n2 n3
          go_wp2_with fail
          go_roundw
          case rel => exact ⟨j + 1, by have := HLT.out; omega, by go_num, by rw [HS2.out]; exact HZ7.out⟩
          case measure => have := HLT.out; simp [intOf]; omega
        | false =>
          have hst : codeG most qs (z0, t0) (j + 1) = s := HSTEP.out
          have HS2 := Lib.hid hst
          have HZC := Lib.hid (HZ.out.quiet HEO.out HOC.out)
          clear hst HFP HSTEP HTK n0 n1 n2 n3
          go_wp2_with fail
          go_roundw
          case rel => exact ⟨j + 1, by have := HLT.out; omega, by go_num, by rw [HS2.out]; exact HZC.out⟩
          case measure => have := HLT.out; simp [intOf]; omega
    · obtain rfl : j = n := by omega
      have hirr : ¬ (j : Int) < (j : Int) := by omega
      rw [← HRES.out] at hz
      obtain ⟨eb, A1, c1, bs, x5, x0, hS1, hb1, hb2, hb3⟩ := hz.code
      obtain ⟨A2, c2, x7, hS2⟩ := hz.told
      have HB := Lib.hid (HEND.out _ _ _ hz)
      have HE := Lib.hid (And.intro hS1 (And.intro hb1 (And.intro hb2 (And.intro hb3 hS2))))
      obtain ⟨n1, hn1⟩ : ∃ n1, n1 = bs.length := ⟨_, rfl⟩
      obtain ⟨n2, hn2⟩ : ∃ n2, n2 = res.1.out.length := ⟨_, rfl⟩
      rw [← hn1] at x0
      rw [← hn2] at x7
      have HN1 := Lib.hid hn1
      have HN2 := Lib.hid hn2
      clear hz hS1 hb1 hb2 hb3 hS2 hlt hj hn1 hn2
      go_wp2_with fail
      go_quiet (fail)
      go_wp2_with fail
      go_ret2
      refine ⟨below_drewN HB.out _, bs, A1, c1, A2, c2, by rw [HN1.out, HN2.out]; rfl, HE.out.1, HE.out.2.1, HE.out.2.2.1, HE.out.2.2.2.1, HE.out.2.2.2.2⟩
end Go.Proofs.YtpdpbbmkicemdaaGreat
