/-
  LwEnds, LwUp: put together.
-/
import Derived.Test.YtjgdjobhhdhfjaaSa24
set_option linter.unusedVariables false
set_option linter.unusedSimpArgs false
/-
  The program's decoder of LZMA: whether the stream ends.
-/
namespace Go.Proofs.Ytjgdjobhhdhfjaa
open Go.RowKit

theorem pd_cells {w : World} {g f lo : Nat} {bs s : List UInt8} {r c : Nat} (h : Pd w g f lo bs (some (r, c, s))) : Blk w g 128 (pdCells f r c false) := by
  obtain ⟨at_, r', c', bad, hB, _, _, _, _, _, h⟩ := h
  rcases h with ⟨_, h⟩ | ⟨rfl, h⟩
  · cases h
  · injection h with h
    injection h with h1 h
    injection h with h2 h
    subst h1 h2
    exact hB
theorem pd_cells_bad {w : World} {g f lo : Nat} {bs : List UInt8} (h : Pd w g f lo bs none) : ∃ r c, Blk w g 128 (pdCells f r c true) := by
  obtain ⟨at_, r', c', bad, hB, _, _, _, _, _, h⟩ := h
  rcases h with ⟨rfl, h⟩ | ⟨rfl, h⟩
  · exact ⟨r', c', hB⟩
  · cases h
def doneX : Dc → Bool
  | none => false
  | some (_, c, _) => decide (c = 0)
theorem ldone_any {w : World} {g f lo : Nat} {bs : List UInt8} {d : Dc} (h : Pd w g f lo bs d) : Calls Try.prog 54 #[.pointer (some ⟨g, 0, none⟩)] w fun e w' => e = .returned (.bool (doneX d)) ∧ w = w' := by
  cases d with
  | none =>
    obtain ⟨r, c, hB⟩ := pd_cells_bad h
    exact done_any hB
  | some x => exact done_any (pd_cells h)

/-- what of a decoder must stand for it to be closed -/
def Hold (K : Kon) (w : World) (Gw : Nat → Prop) (out : List UInt8) : Prop :=
  ∃ fs ps, LzAt w K.g fs ps ∧ fs[6]? = some (.pointer (some ⟨K.wg, 0, none⟩)) ∧ fs[7]? = some (.pointer (some ⟨K.m, 0, none⟩)) ∧ fs[8]? = some (.int .i64 K.room) ∧ Pwin w K.wg Gw K.m ⟨K.sz, out, false⟩
theorem Lw.hold {K : Kon} {w : World} {Gw : Nat → Prop} {z : Lzs} {t : Pm Dc} {left : Nat} (h : Lw K w Gw z t left) : Hold K w Gw z.out :=
  ⟨_, _, h.dec, rfl, rfl, rfl, h.win⟩
theorem Hold.only {K : Kon} {w w' : World} {Gw S : Nat → Prop} {out : List UInt8} (h : Hold K w Gw out) (hO : Only S w w') (hg : ¬ S K.g) (hS : ∀ i, Gw i → ¬ S i) : Hold K w' Gw out := by
  obtain ⟨fs, ps, h1, h2, h3, h4, h5⟩ := h
  exact ⟨fs, ps, h1.only hO hg, h2, h3, h4, h5.only hO hS⟩
theorem Hold.put {K : Kon} {w : World} {Gw : Nat → Prop} {out : List UInt8} (h : Hold K w Gw out) (hg : ∀ i, Gw i → i ≠ K.g) (v : Value) : Hold K (w.setCell ⟨K.g, 1865, none⟩ v) Gw out := by
  obtain ⟨fs, ps, h1, h2, h3, h4, h5⟩ := h
  refine ⟨fs.set 18 v, ps, h1.put 18 (by decide) v, ?_, ?_, ?_, h5.only ((Only.refl (fun i => i = K.g) w).setCell (p := ⟨K.g, 1865, none⟩) (.inl rfl) v) hg⟩
  · rw [List.getElem?_set_ne (by decide)]; exact h2
  · rw [List.getElem?_set_ne (by decide)]; exact h3
  · rw [List.getElem?_set_ne (by decide)]; exact h4

section
variable {zf : Lzs} {tf : Pm Dc}
theorem fin_lit (hb : zf.bad = false) (he : zf.ended = false) (h0 : (bitP decM tf (16 * zf.st + zf.out.length % 2 ^ zf.pb) 0).1 = 0) : finD zf tf = if leftD tf.x = true then some zf.out else none := by
  have hp := (pk_first (t := tf) hb).1 h0
  have hen : (packP decM zf tf pk0).2.1.ended = false := by
    rw [hp]
    unfold packL
    split
    · exact he
    · exact he
  unfold finD endD
  rw [hen]
  simp
theorem fin_stop (hl : leftD tf.x = false) (h : (packP decM zf tf pk0).2.2.x = none ∨ (packP decM zf tf pk0).2.1.bad = true ∨ (packP decM zf tf pk0).2.1.ended = false) : finD zf tf = none := by
  unfold finD
  rw [if_neg (by rw [hl]; simp), if_pos]
  unfold endD
  rcases h with h | h | h
  · rw [h]; simp [leftD]
  · rw [h]; simp
  · rw [h]; simp
theorem fin_end {z1 : Lzs} {t1 : Pm Dc} (hl : leftD tf.x = false) (h : packP decM zf tf pk0 = (0, z1, t1)) (he : z1.ended = true) (hb : z1.bad = false) (ho : z1.out = zf.out) : finD zf tf = if leftD t1.x = true then some zf.out else none := by
  unfold finD endD
  rw [if_neg (by rw [hl]; simp), h]
  dsimp only
  rw [he, hb, ho]
  cases leftD t1.x <;> simp
theorem done_first {L k : Nat} {r : Nat} {rest : List UInt8} (h : PmOk okD L k tf) (hx : tf.x = some (r, 0, rest)) (a : Nat) (ha : a < L) : (bitP decM tf a 0).1 = 0 := by
  have hp : POk (tf.ps.getD a 0) := getD_ok h.ps (by rw [h.len]; exact ha)
  have hk : DcOk tf.x := h.x
  rw [hx] at hk
  show (bitD tf.x (tf.ps.getD a 0)).1 = 0
  rw [hx]
  unfold bitD
  have hk := hk r 0 rest rfl
  have hb := (bound_in hk.1 hk.2.1 hp).1
  dsimp only
  rw [if_pos (by omega)]
theorem fin_none (hl : tf.x = none) : finD zf tf = none := fin_stop (by rw [hl]; rfl) (.inl (packP_none hl))
end

section
variable {K : Kon} {w w' : World} {Gw : Nat → Prop} {z zf : Lzs} {t tf : Pm Dc} {left n : Nat}
def NextIs (K : Kon) (w : World) (more : Bool) (e : Ending) (w' : World) : Prop := ∃ x : Int, e = .returned (.tuple #[.int .u8 x, .bool more]) ∧ Only (fun i => i = K.f) w w'
theorem lsource_any {r c : Nat} {rest : List UInt8} (h : Lw K w Gw z t left) (hx : t.x = some (r, c, rest)) :
    Calls Try.prog 154 #[.pointer (some ⟨K.f, 0, none⟩)] w (NextIs K w (!decide (rest = []))) := by
  have hp := h.mch.pd
  rw [hx] at hp
  obtain ⟨at_, r', c', bad, hB, hF, hfg, h1, h2, h3, h4⟩ := hp
  have hr : rest = K.bs.drop at_ := by
    rcases h4 with ⟨_, h⟩ | ⟨_, h⟩
    · cases h
    · injection h with h; injection h with _ h; injection h with _ h
  by_cases ha : at_ < K.bs.length
  · rw [decide_eq_false (by rw [hr]; intro e; have := congrArg List.length e; simp at this; omega)]
    refine (feed_more hF ha).mono ?_
    rintro e w1 ⟨rfl, _, hg⟩
    exact ⟨_, rfl, Only.of_grown hg rfl⟩
  · obtain rfl : at_ = K.bs.length := by omega
    rw [decide_eq_true (by rw [hr]; simp)]
    refine (feed_end hF).mono ?_
    rintro e w1 ⟨rfl, d, rfl⟩
    exact ⟨0, rfl, (Only.refl _ w).drewN d⟩

def EndPost (K : Kon) (w : World) (Gw : Nat → Prop) (zf : Lzs) (tf : Pm Dc) (n : Nat) (e : Ending) (w' : World) : Prop :=
  ∃ b, e = .returned (.bool b) ∧ (n < zf.out.length → b = false) ∧ (n = zf.out.length → finD zf tf = if b = true then some zf.out else none) ∧ Hold K w' Gw (zf.cut n).out ∧ Only K.own w w'

set_option maxRecDepth 100000 in
set_option maxHeartbeats 8000000 in
theorem lends_any (h : Nx K w Gw zf tf n) (hn : n ≤ 800000) (hf : Fit K (zf.cut n)) :
    Calls Try.prog 55 #[.pointer (some ⟨K.g, 0, none⟩)] w (EndPost K w Gw zf tf n) := by
  have HX := Lib.hid h
  have HN := Lib.hid hn
  have KM := lmay_any h.lw
  have xe := h.lw.f.ended
  have xl := h.lw.f.left
  have x5 := h.lw.f.c5
  have x4 := h.lw.f.c4
  have hb : (zf.cut n).bad = false := h.bad
  have he : (zf.cut n).ended = false := h.ended
  rw [hb] at KM
  rw [he] at xe
  by_cases hlt : n < zf.out.length
  · rw [live_bad (h.live hlt)] at KM
    have KM := Lib.hid KM
    obtain ⟨l, hl⟩ : ∃ l, zf.out.length - n = l + 1 := ⟨zf.out.length - n - 1, by omega⟩
    rw [hl] at xl
    have q0 : decide (((l + 1 : Nat) : Int) > 0) = true := decide_eq_true (by omega)
    have q1 : ((l + 1 : Nat) : Int) > 0 := by omega
    obtain ⟨l1, hl1⟩ : ∃ l1, l1 = l + 1 := ⟨_, rfl⟩
    rw [← hl1] at q0 q1 xl
    have HL := Lib.hid (And.intro hlt h.lw.hold)
    clear hl hl1 hlt h hf hn hb he
    go_enter Try.func55, Try.ntmps55
    go_wp2_with fail
    refine KM.out.mono ?_
    rintro e w1 ⟨rfl, rfl⟩
    clear KM
    go_wp2_with fail
    go_ret
    exact ⟨false, rfl, fun _ => rfl, fun hh => absurd hh (by have := HL.out.1; omega), HL.out.2, Only.refl _ _⟩
  · obtain rfl : n = zf.out.length := by have := h.le; omega
    have hhold : Hold K w Gw (zf.cut zf.out.length).out := h.lw.hold
    have hw := h.lw
    rw [cut_all] at hf hb he hw
    rw [Nat.sub_self] at xl hw
    have q0 : decide ((0 : Int) > 0) = false := by decide
    cases hx : tf.x with
    | none =>
      rw [dead_bad hx] at KM
      have KM := Lib.hid KM
      have HH := Lib.hid (And.intro hhold (fin_none (zf := zf) hx))
      clear hlt h hf hn hb he hhold hw hx
      go_enter Try.func55, Try.ntmps55
      go_wp2_with fail
      refine KM.out.mono ?_
      rintro e w1 ⟨rfl, rfl⟩
      clear KM
      go_wp2_with fail
      go_ret
      exact ⟨false, rfl, fun _ => rfl, fun _ => HH.out.2, HH.out.1, Only.refl _ _⟩
    | some x =>
      obtain ⟨r, c, rest⟩ := x
      rw [live_bad (by rw [hx]; simp)] at KM
      have KM := Lib.hid KM
      have KD := ldone_any hw.mch.pd
      rw [hx] at KD
      have hz := h.near
      have hap := h.lw.ap
      have hlo := h.lw.mch.pd.lo
      have hKg : ¬ K.g = K.f := by have := hap.gl; omega
      have hGf : ∀ i, Gw i → ¬ i = K.f := fun i hi e => by have := (hap.wd i hi).2.2.2; omega
      by_cases hc : c = 0
      · subst hc
        have hd0 : doneX (some (r, 0, rest)) = true := rfl
        rw [hd0] at KD
        have KD := Lib.hid KD
        have KS := Lib.hid (lsource_any hw hx)
        have hfin : finD zf tf = if leftD tf.x = true then some zf.out else none := fin_lit hb he (done_first hw.mch.ok hx _ (by have := hz.st; have := hz.pb; have : zf.out.length % 2 ^ zf.pb < 2 ^ zf.pb := Nat.mod_lt _ (Nat.two_pow_pos _); have : 2 ^ zf.pb ≤ 2 ^ 4 := Nat.pow_le_pow_right (by decide) (by omega); omega))
        have hlf : leftD tf.x = decide (rest = []) := by rw [hx]; simp [leftD]
        rw [hlf] at hfin
        have HH := Lib.hid (And.intro hhold (And.intro hfin (And.intro hKg hGf)))
        have hm := method_next
        clear hlt h hf hn hb he hhold hw hx hd0 hfin hlf hz hap hlo hKg hGf
        go_enter Try.func55, Try.ntmps55
        go_wp2_with fail
        refine KM.out.mono ?_
        rintro e w1 ⟨rfl, rfl⟩
        clear KM
        go_wp2_with fail
        refine KD.out.mono ?_
        rintro e w1 ⟨rfl, rfl⟩
        go_wp2_with fail
        refine KD.out.mono ?_
        rintro e w1 ⟨rfl, rfl⟩
        clear KD
        go_wp2_with fail
        refine KS.out.mono ?_
        rintro e w2 ⟨x, rfl, hO⟩
        have HO := Lib.hid hO
        clear hO KS
        go_wp2_with fail
        go_ret
        refine ⟨_, rfl, fun hh => absurd hh (Nat.lt_irrefl _), fun _ => ?_, HH.out.1.only HO.out HH.out.2.2.1 HH.out.2.2.2, HO.out.mono fun i hi => .inl hi⟩
        rw [HH.out.2.1]
      · have hd0 : doneX (some (r, c, rest)) = false := decide_eq_false hc
        rw [hd0] at KD
        have KD := Lib.hid KD
        have hlf : leftD tf.x = false := by rw [hx]; simp [leftD, hc]
        have KS := Lib.hid (lstart_any hw hz.st hz.pb (by omega))
        have hpk := pk_first (t := tf) hb
        obtain ⟨s, hs⟩ : ∃ s, s = zf.out.length % 2 ^ zf.pb := ⟨_, rfl⟩
        have hfl := fin_lit (tf := tf) hb he
        rw [← hs] at KS hpk hfl
        obtain ⟨B, hB⟩ : ∃ B, B = bitP decM tf (16 * zf.st + s) 0 := ⟨_, rfl⟩
        rw [← hB] at KS hpk hfl
        by_cases h0 : B.1 = 0
        · rw [decide_eq_true h0] at KS
          have hfin := hfl h0
          rw [hlf] at hfin
          have HH := Lib.hid (And.intro hhold (And.intro hfin (And.intro hKg hGf)))
          clear hlt h hf hn hb he hhold hw hx hd0 hfin hlf hz hap hlo hKg hGf hpk hs hB h0 hfl
          go_enter Try.func55, Try.ntmps55
          go_wp2_with fail
          refine KM.out.mono ?_
          rintro e w1 ⟨rfl, rfl⟩
          clear KM
          go_wp2_with fail
          refine KD.out.mono ?_
          rintro e w1 ⟨rfl, rfl⟩
          clear KD
          go_wp2_with fail
          refine KS.out.mono ?_
          rintro e w1 ⟨rfl, hz1, ho1⟩
          have HZ := Lib.hid (And.intro hz1 ho1)
          clear hz1 ho1 KS
          go_wp2_with fail
          go_ret
          exact ⟨false, rfl, fun hh => absurd hh (Nat.lt_irrefl _), fun _ => HH.out.2.1, by rw [cut_all]; exact HZ.out.1.hold, HZ.out.2⟩
        · rw [decide_eq_false h0] at KS
          have hr := hpk.2 h0
          have HR := Lib.hid (And.intro hr hlf)
          have HZ := Lib.hid hz
          have HBE := Lib.hid (And.intro hb (And.intro he (And.intro hs hf)))
          have HK := Lib.hid (And.intro hKg hGf)
          have hm := method_next
          clear hlt h hf hn hb he hhold hw hx hd0 hlf hz hap hlo hKg hGf hpk hs hB h0 hfl hr
          go_enter Try.func55, Try.ntmps55
          go_wp2_with fail
          refine KM.out.mono ?_
          rintro e w1 ⟨rfl, rfl⟩
          clear KM
          go_wp2_with fail
          refine KD.out.mono ?_
          rintro e w1 ⟨rfl, rfl⟩
          clear KD
          go_wp2_with fail
          refine KS.out.mono ?_
          rintro e w1 ⟨rfl, hz1, ho1⟩
          have KC := Lib.hid (lcopies_any (s := s) hz1 HZ.out (by have := HN.out; omega) HBE.out.2.2.2 HBE.out.2.2.1 HBE.out.1 HBE.out.2.1)
          rw [← HR.out.1] at KC
          have HO1 := Lib.hid ho1
          clear hz1 ho1 KS
          go_wp2_with fail
          refine KC.out.mono ?_
          rintro e w2 ⟨z1, t1, left1, ⟨rfl, hl2, ho2⟩, hout, hdict, hnear, ht, hcase⟩
          clear KC
          have HO2 := Lib.hid (HO1.out.trans ho2)
          have hh2 : Hold K w2 Gw (zf.cut zf.out.length).out := by
            rw [cut_all, ← hout]
            exact hl2.hold
          by_cases hen : z1.ended = true
          · have y := hl2.f.ended
            rw [hen] at y
            have KD := ldone_any hl2.mch.pd
            have hy5 := hl2.f.c5
            have hy4 := hl2.f.c4
            rcases hcase with ⟨hd1, h10⟩ | ⟨_, _, _, hne, _⟩ | ⟨hd1, hb1, he1, hr1, h10⟩ | ⟨_, _, hne, _⟩
            · rw [hd1, show doneX none = false from rfl] at KD
              have KD := Lib.hid KD
              have HF := Lib.hid (And.intro (fin_stop HR.out.2 (.inl (by rw [← ht]; exact hd1))) hh2)
              clear hl2 ho2 hout hdict hnear ht hen hd1 h10 hh2
              go_wp2_with fail
              refine KD.out.mono ?_
              rintro e w1 ⟨rfl, rfl⟩
              clear KD
              go_wp2_with fail
              go_ret
              exact ⟨false, rfl, fun hh => absurd hh (Nat.lt_irrefl _), fun _ => HF.out.1, HF.out.2, HO2.out⟩
            · rw [hen] at hne; cases hne
            · cases hx1 : t1.x with
              | none => exact absurd hx1 hd1
              | some x1 =>
                obtain ⟨r1, c1, rest1⟩ := x1
                rw [hx1] at KD
                have hfe := fin_end (tf := tf) HR.out.2 hr1 he1 hb1 hout
                by_cases hc1 : c1 = 0
                · rw [show doneX (some (r1, c1, rest1)) = true from decide_eq_true hc1] at KD
                  have KD := Lib.hid KD
                  have KN := Lib.hid (lsource_any hl2 hx1)
                  have hlf1 : leftD t1.x = decide (rest1 = []) := by rw [hx1]; simp [leftD, hc1]
                  rw [hlf1] at hfe
                  have HF := Lib.hid (And.intro hfe hh2)
                  clear hl2 ho2 hout hdict hnear ht hen hd1 h10 hh2 hx1 hfe hlf1 hc1 hr1 he1 hb1
                  go_wp2_with fail
                  refine KD.out.mono ?_
                  rintro e w1 ⟨rfl, rfl⟩
                  clear KD
                  go_wp2_with fail
                  refine KN.out.mono ?_
                  rintro e w3 ⟨x, rfl, hO⟩
                  have HO := Lib.hid hO
                  clear hO KN
                  go_wp2_with fail
                  go_ret
                  refine ⟨_, rfl, fun hh => absurd hh (Nat.lt_irrefl _), fun _ => ?_, HF.out.2.only HO.out HK.out.1 HK.out.2, HO2.out.trans (HO.out.mono fun i hi => .inl hi)⟩
                  rw [HF.out.1]
                · rw [show doneX (some (r1, c1, rest1)) = false from decide_eq_false hc1] at KD
                  have KD := Lib.hid KD
                  have hlf1 : leftD t1.x = false := by rw [hx1]; simp [leftD, hc1]
                  rw [hlf1] at hfe
                  have HF := Lib.hid (And.intro hfe hh2)
                  clear hl2 ho2 hout hdict hnear ht hen hd1 h10 hh2 hx1 hfe hlf1 hc1 hr1 he1 hb1
                  go_wp2_with fail
                  refine KD.out.mono ?_
                  rintro e w1 ⟨rfl, rfl⟩
                  clear KD
                  go_wp2_with fail
                  go_ret
                  exact ⟨false, rfl, fun hh => absurd hh (Nat.lt_irrefl _), fun _ => HF.out.1, HF.out.2, HO2.out⟩
            · rw [hen] at hne; cases hne
          · have hen : z1.ended = false := by simpa using hen
            have y := hl2.f.ended
            rw [hen] at y
            have hst : (packP decM zf tf pk0).2.2.x = none ∨ (packP decM zf tf pk0).2.1.bad = true ∨ (packP decM zf tf pk0).2.1.ended = false := by
              rcases hcase with ⟨hd1, h10⟩ | ⟨_, hb1, _, _, _⟩ | ⟨hd1, hb1, he1, hr1, h10⟩ | ⟨_, _, _, hh1, _, _, hr1⟩
              · exact .inl (by rw [← ht]; exact hd1)
              · exact .inr (.inl hb1)
              · rw [hen] at he1; cases he1
              · refine .inr (.inr ?_)
                rw [hr1]
                have := (copy_cut left1 0 hh1).1
                rw [this]
                exact hen
            have HF := Lib.hid (And.intro (fin_stop HR.out.2 hst) hh2)
            clear hl2 ho2 hout hdict hnear ht hen hcase hh2 hst
            go_wp2_with fail
            go_ret
            exact ⟨false, rfl, fun hh => absurd hh (Nat.lt_irrefl _), fun _ => HF.out.1, HF.out.2, HO2.out⟩

set_option maxRecDepth 100000 in
set_option maxHeartbeats 4000000 in
theorem lfinish_any (h : Nx K w Gw zf tf n) (hn : n ≤ 800000) (hf : Fit K (zf.cut n)) :
    Calls Try.prog 27 #[.pointer (some ⟨K.g, 0, none⟩)] w (EndPost K w Gw zf tf n) := by
  have KE := Lib.hid (lends_any h hn hf)
  have hg : ∀ i, Gw i → i ≠ K.g := fun i hi => (h.lw.ap.wd i hi).1
  have HG := Lib.hid hg
  clear h hn hf hg
  go_enter Try.func27, Try.ntmps27
  go_wp2_with fail
  refine KE.out.mono ?_
  rintro e w1 ⟨b, rfl, h1, h2, h3, h4⟩
  have HH := Lib.hid (And.intro h1 (And.intro h2 (And.intro h3 h4)))
  obtain ⟨fs, ps, hD, _⟩ := h3
  obtain ⟨u, xb⟩ : ∃ u, w1.cell? ⟨K.g, 1865, none⟩ = some u := ⟨_, (hD.cell 18 (by decide)).trans (List.getElem?_eq_getElem (by have := hD.len; omega))⟩
  have zb := hD.free 1865
  clear hD h1 h2 h4 KE
  go_wp2_with fail
  go_ret
  exact ⟨b, rfl, HH.out.1, HH.out.2.1, HH.out.2.2.1.put HG.out _, HH.out.2.2.2.own_put 18 _⟩
end
end Go.Proofs.Ytjgdjobhhdhfjaa

/-
  The program's Unpack: what stands between two bytes.
-/
namespace Go.Proofs.Ytjgdjobhhdhfjaa
open Go.RowKit

/-- fuel that is enough is enough -/
theorem upG_fuel {size : Int} : ∀ (f g : Nat) (z : Lzs) (t : Pm Dc), size.toNat ≤ z.out.length + f → size.toNat ≤ z.out.length + g → upG size f z t = upG size g z t
  | f, g, z, t, hf, hg => by
    by_cases h : (z.out.length : Int) < size
    · obtain ⟨f', rfl⟩ : ∃ f', f = f' + 1 := ⟨f - 1, by omega⟩
      obtain ⟨g', rfl⟩ : ∃ g', g = g' + 1 := ⟨g - 1, by omega⟩
      by_cases hs : stopD size (packP decM z t pk0) = true
      · rw [upG_stop h hs, upG_stop h hs]
      · rw [upG_go h hs, upG_go h hs]
        have hm := pack_more (size := size) (z := z) (t := t) (by simpa using hs)
        exact upG_fuel f' g' _ _ (by omega) (by omega)
    · rw [upG_done h, upG_done h]
/-- what is to come of it -/
def resN (size : Int) (zf : Lzs) (tf : Pm Dc) : Option (List UInt8) := if size.toNat < zf.out.length then none else finU (upG size (size.toNat - zf.out.length) zf tf)
theorem resN_next {size : Int} {zf : Lzs} {tf : Pm Dc} (h : (zf.out.length : Int) < size) (hs : ¬ stopP (packP decM zf tf pk0)) : resN size zf tf = resN size (packP decM zf tf pk0).2.1 (packP decM zf tf pk0).2.2 := by
  obtain ⟨f, hf⟩ : ∃ f, size.toNat - zf.out.length = f + 1 := ⟨size.toNat - zf.out.length - 1, by omega⟩
  unfold resN
  rw [if_neg (by omega), hf]
  obtain ⟨r, hr⟩ : ∃ r, r = packP decM zf tf pk0 := ⟨_, rfl⟩
  have hx : r.2.2.x ≠ none := fun e => hs (hr ▸ .inl e)
  have hb : r.2.1.bad = false := by
    cases h : r.2.1.bad with
    | false => rfl
    | true => exact absurd (hr ▸ Or.inr (Or.inl h)) hs
  have he : r.2.1.ended = false := by
    cases h : r.2.1.ended with
    | false => rfl
    | true => exact absurd (hr ▸ Or.inr (Or.inr h)) hs
  have hst : stopD size r = decide (size < (r.2.1.out.length : Int)) := by
    unfold stopD
    rw [hb, he, live_bad hx]
    rfl
  rw [← hr]
  by_cases hl : size.toNat < r.2.1.out.length
  · rw [if_pos hl, upG_stop h (by rw [← hr, hst]; exact decide_eq_true (by omega))]
    rfl
  · have hn : ¬ stopD size r = true := by rw [hst]; simp; omega
    rw [if_neg hl, upG_go h (by rw [← hr]; exact hn)]
    rw [← hr]
    have hm := pack_more (size := size) (z := zf) (t := tf) (by rw [← hr]; simpa using hn)
    rw [← hr] at hm
    rw [upG_fuel f (size.toNat - r.2.1.out.length) _ _ (by omega) (by omega)]
theorem resN_stop {size : Int} {zf : Lzs} {tf : Pm Dc} (h : (zf.out.length : Int) < size) (hs : stopP (packP decM zf tf pk0)) : resN size zf tf = none := by
  obtain ⟨f, hf⟩ : ∃ f, size.toNat - zf.out.length = f + 1 := ⟨size.toNat - zf.out.length - 1, by omega⟩
  unfold resN
  rw [if_neg (by omega), hf, upG_stop h]
  · rfl
  · unfold stopD
    rcases hs with hs | hs | hs
    · rw [dead_bad hs]; simp
    · rw [hs]; rfl
    · rw [hs]; simp
theorem resN_end {size : Int} {zf : Lzs} {tf : Pm Dc} {n : Nat} {b : Bool} (hn : n ≤ size.toNat) (hs : ¬ (n : Int) < size) (hl : n ≤ zf.out.length) (h1 : n < zf.out.length → b = false) (h2 : n = zf.out.length → finD zf tf = if b = true then some zf.out else none) : resN size zf tf = if b = true then some (zf.out.take n) else none := by
  unfold resN
  by_cases hlt : n < zf.out.length
  · rw [h1 hlt, if_pos (by omega)]
    rfl
  · obtain rfl : n = zf.out.length := by omega
    rw [if_neg (by omega), upG_done hs, List.take_length]
    exact h2 rfl
theorem resN_start {size : Int} {lc lp pb dict : Nat} {bs : List UInt8} : unpackN bs lc lp pb dict size = resN size (Lzs.start lc lp pb dict) ⟨List.replicate (probsN lc lp) 1024, started bs⟩ := by
  unfold unpackN resN
  have h0 : (Lzs.start lc lp pb dict).out.length = 0 := rfl
  rw [h0, if_neg (Nat.not_lt_zero _), Nat.sub_zero]

section
variable {K : Kon} {w w' : World} {Gw S : Nat → Prop} {zf : Lzs} {tf : Pm Dc} {n : Nat}
theorem Nx.only (h : Nx K w Gw zf tf n) (hO : Only S w w') (h1 : ∀ i, S i → K.dg < i) (h2 : ∀ i, Gw i → ¬ S i) : Nx K w' Gw zf tf n := by
  have hlo := h.lw.mch.pd.lo
  have hap := h.lw.ap
  refine ⟨⟨⟨h.lw.mch.pd.only hO (fun i hi => .inr (h1 i hi)), (K.prb _ hap.gn).only h.lw.mch.row hO (fun i hi hs => ?_), h.lw.mch.ok⟩, h.lw.win.only hO h2, hap⟩, h.le, h.far, h.near, h.live, h.bad, h.ended, h.tell⟩
  have := h1 i hs
  have a1 := hap.gl
  have a2 := hap.ll
  rcases hi with rfl | rfl
  · omega
  · omega
theorem Apart.meter (h : Apart K Gw) (hp : K.lo ≤ K.f ∧ K.f < K.dg) : ¬ K.all Gw K.m := by
  rintro ((e | e | e | e) | e)
  · have := h.ml; omega
  · have := h.ml; omega
  · exact h.mg e
  · exact h.mb e
  · exact (h.wd _ e).2.2.1 rfl

/-- what stands between two bytes: n of them are in the row that v is -/
structure Inv (K : Kon) (B : Nat) (w : World) (size : Int) (dict : Nat) (res : Option (List UInt8)) (q : Quo) (t : Tel) (v : Value) (wr : World) (n : Nat) (zf : Lzs) (tf : Pm Dc) (Gw : Nat → Prop) : Prop where
  nx : Nx K wr Gw zf tf n
  own : wr.ownsRow B 5 1 v n (bv (zf.out.take n))
  far : ∀ b, v.ownBlock = some b → ¬ Gw b
  le : n ≤ size.toNat
  res : res = resN size zf tf
  fit : zf.dict = dict
  mt : MeterAt wr 105 K.m q t
  only : Only (fun i => i = K.m) w wr
  gm : ∀ i, Gw i → w.heap.size ≤ i
  low : w.heap.size ≤ K.g ∧ w.heap.size ≤ K.lb ∧ w.heap.size ≤ K.lo ∧ K.dg < B
  bot : B ≤ wr.heap.size

/-- a byte has been told, it isn't put yet -/
structure Mid (K : Kon) (B : Nat) (w : World) (size : Int) (dict : Nat) (res : Option (List UInt8)) (q : Quo) (t : Tel) (v : Value) (wr : World) (n : Nat) (zf : Lzs) (tf : Pm Dc) (Gw : Nat → Prop) : Prop where
  nx : Nx K wr Gw zf tf (n + 1)
  own : wr.ownsRow B 5 1 v n (bv (zf.out.take n))
  far : ∀ b, v.ownBlock = some b → ¬ Gw b
  le : n + 1 ≤ size.toNat
  res : res = resN size zf tf
  fit : zf.dict = dict
  mt : MeterAt wr 105 K.m q t
  only : Only (fun i => i = K.m) w wr
  gm : ∀ i, Gw i → w.heap.size ≤ i
  low : w.heap.size ≤ K.g ∧ w.heap.size ≤ K.lb ∧ w.heap.size ≤ K.lo ∧ K.dg < B
  bot : B ≤ wr.heap.size
end

theorem own_at {w : World} {base : Nat} {e : TypeId} {v : Value} {n : Nat} {xs : List Value} (h : w.ownsRow base e 1 v n xs) {b : Nat} (hb : v.ownBlock = some b) : base ≤ b ∧ b < w.heap.size := by
  rcases h.2 with ⟨rfl, _⟩ | ⟨g, cap, cur, rfl, h1, h2, _⟩
  · cases hb
  · injection hb with hb
    subst hb
    exact ⟨h1, (Array.getElem?_eq_some_iff.1 h2).1⟩
theorem own_onlyV {w w' : World} {S : Nat → Prop} {base : Nat} {e : TypeId} {v : Value} {n : Nat} {xs : List Value} (h : w.ownsRow base e 1 v n xs) (hO : Only S w w') (hS : ∀ b, v.ownBlock = some b → ¬ S b) : w'.ownsRow base e 1 v n xs := by
  refine ⟨h.1, ?_⟩
  rcases h.2 with hn | ⟨g, cap, cur, rfl, hb, hgg, rest⟩
  · exact .inl hn
  · refine .inr ⟨g, cap, cur, rfl, hb, ?_, rest⟩
    rw [hO.block g (Array.getElem?_eq_some_iff.1 hgg).1 (hS g rfl)]
    exact hgg

section
variable {K : Kon} {w wr w6 w7 : World} {Gw Gw' : Nat → Prop} {zf zf' : Lzs} {tf tf' : Pm Dc} {n B dict : Nat} {size : Int} {res : Option (List UInt8)} {q : Quo} {t : Tel} {v v' : Value} {o : Obj}
theorem Inv.told (h : Inv K B w size dict res q t v wr n zf tf Gw) (hlt : (n : Int) < size) (hN : Nx K w6 Gw' zf' tf' (n + 1)) (hd : zf'.dict = zf.dict) (ht : zf'.out.take n = zf.out.take n)
    (hc : (n < zf.out.length ∧ zf' = zf ∧ tf' = tf) ∨ (n = zf.out.length ∧ ¬ stopP (packP decM zf tf pk0) ∧ zf' = (packP decM zf tf pk0).2.1 ∧ tf' = (packP decM zf tf pk0).2.2))
    (hG : ∀ i, Gw' i → Gw i ∨ wr.heap.size ≤ i) (hO : Only (K.all Gw) wr w6) : Mid K B w size dict res q t v w6 n zf' tf' Gw' := by
  have hlo := h.nx.lw.mch.pd.lo
  have hap := h.nx.lw.ap
  obtain ⟨l1, l2, l3, l4⟩ := h.low
  have hsz := h.only.size
  have hall : ∀ b, v.ownBlock = some b → ¬ K.all Gw b := by
    intro b hb hk
    have h1 := (own_at h.own hb).1
    have a1 := hap.gl
    have a2 := hap.ll
    rcases hk with (e | e | e | e) | e
    · omega
    · omega
    · omega
    · omega
    · exact h.far b hb e
  refine ⟨hN, by rw [ht]; exact own_onlyV h.own hO hall, fun b hb hg => ?_, by omega, ?_, hd.trans h.fit, h.mt.only hO (hap.meter hlo), h.only.trans' hO (fun i hi => .inr ?_), fun i hi => ?_, h.low, Nat.le_trans h.bot hO.size⟩
  · rcases hG b hg with h1 | h1
    · exact h.far b hb h1
    · have := (own_at h.own hb).2
      omega
  · rcases hc with ⟨_, rfl, rfl⟩ | ⟨rfl, hs, rfl, rfl⟩
    · exact h.res
    · rw [h.res]
      exact resN_next hlt hs
  · rcases hi with (e | e | e | e) | e
    · omega
    · omega
    · omega
    · omega
    · exact h.gm i e
  · rcases hG i hi with h1 | h1
    · exact h.gm i h1
    · omega
theorem Mid.put (h : Mid K B w size dict res q t v w6 n zf tf Gw) (ho : w7.ownsRow B 5 1 v' (n + 1) (bv (zf.out.take n) ++ [.int .u8 ((zf.out.getD n 0).toNat : Int)])) (hg : (w6.alloc o).grownBy w7 v.ownBlock) (hv : v'.ownBlock = v.ownBlock ∨ v'.ownBlock = some (w6.alloc o).heap.size) :
    Inv K B w size dict res q t v' w7 (n + 1) zf tf Gw := by
  have hlo := h.nx.lw.mch.pd.lo
  have hap := h.nx.lw.ap
  obtain ⟨l1, l2, l3, l4⟩ := h.low
  have hle := h.nx.le
  have hsz := h.only.size
  have hO : Only (fun i => v.ownBlock = some i) w6 w7 := by
    have h1 : Only (fun i => v.ownBlock = some i) w6 (w6.alloc o) := (Only.refl _ w6).alloc _
    refine h1.trans ⟨hg.os, hg.tape, hg.output, hg.size, fun i hi hn => hg.block i hi (fun e => hn e.symm)⟩
  have hB : ∀ i, v.ownBlock = some i → B ≤ i := fun i hi => (own_at h.own hi).1
  refine ⟨h.nx.only hO (fun i hi => by have := hB i hi; omega) (fun i hi hs => h.far i hs hi), ?_, fun b hb hgw => ?_, h.le, h.res, h.fit, h.mt.only hO (fun e => ?_), h.only.trans' hO (fun i hi => .inr ?_), h.gm, h.low, Nat.le_trans h.bot hO.size⟩
  · rw [take_snoc8 _ _ (by omega), bv_append]
    exact ho
  · rcases hv with e | e
    · exact h.far b (e ▸ hb) hgw
    · rw [e] at hb
      injection hb with hb
      have h1 := h.nx.lw.win.old hgw
      have h2 : (w6.alloc o).heap.size = w6.heap.size + 1 := by simp
      omega
  · have h1 := hB _ e
    have := hap.ml
    omega
  · have := hB i hi
    omega
end
end Go.Proofs.Ytjgdjobhhdhfjaa
