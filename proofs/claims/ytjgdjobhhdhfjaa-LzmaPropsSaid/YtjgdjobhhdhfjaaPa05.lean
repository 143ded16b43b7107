/-
  RdTell, RdNums, RdRev, Be: put together.
-/
import Derived.Test.YtjgdjobhhdhfjaaPa04
import Derived.LoopTactic
set_option linter.unusedVariables false
set_option linter.unusedSimpArgs false
/-
  The decoder tells a bit with a probability.
-/
namespace Go.Proofs.Ytjgdjobhhdhfjaa
open Go.RowKit

def three (f g b : Nat) : Nat → Prop := fun i => i = f ∨ i = g ∨ i = b
theorem two_three {f g b i : Nat} (h : two f g i) : three f g b i := by rcases h with h | h; exact .inl h; exact .inr (.inl h)

theorem u16_in (x : Int) (h : 0 ≤ x ∧ x < 65536) : IntKind.u16.wrap x = x := by
  simp [IntKind.wrap, IntKind.bits, IntKind.signed]
  omega

/-- What a bit leaves: behind a definition, so that no walk looks into it. -/
def TellPost (w : World) (g f lo b : Nat) (bs : List UInt8) (ps : List Nat) (pc v : Nat) (d : Dc) (e : Ending) (w' : World) : Prop :=
  e = .returned (.int .i64 (v : Int)) ∧ Pd w' g f lo bs d ∧ Row w' b ps pc ∧ Only (three f g b) w w'

section
variable {g f lo r c at_ b i p pc : Nat} {w : World} {bs : List UInt8} {ps : List Nat}

set_option maxRecDepth 100000 in
set_option maxHeartbeats 1000000 in
theorem bit_bad {a : Addr} (hB : Blk w g 128 (pdCells f r c true)) :
    Calls Try.prog 74 #[.pointer (some ⟨g, 0, none⟩), .pointer (some a)] w fun e w' => e = .returned (.int .i64 0) ∧ w = w' := by
  have h3 : w.cell? ⟨g, 3, none⟩ = some (.bool true) := hB.cell 3
  clear hB
  go_enter Try.func74, Try.ntmps74
  go_wp2_with fail
  go_ret
  exact ⟨rfl, rfl⟩

set_option maxRecDepth 100000 in
set_option maxHeartbeats 4000000 in
theorem bit_zero {z : Nat} (hz : z = r / 2048 * p) (hB : Blk w g 128 (pdCells f r c false)) (hF : Feed w f lo bs at_) (hfg : f < g) (hR : Row w b ps pc) (hi : i < ps.length) (hpi : p = ps.getD i 0) (hb : b < lo ∨ g < b)
    (hr0 : 16777216 ≤ r) (hr : r < 4294967296) (hp : POk p) (hlt : c < z) :
    Calls Try.prog 74 #[.pointer (some ⟨g, 0, none⟩), .pointer (some ⟨b, i, none⟩)] w (TellPost w g f lo b bs (ps.set i (up0 p)) pc 0 (lvl z c (bs.drop at_))) := by
  obtain ⟨b0, b1⟩ := bound_in hr0 hr hp
  rw [← hz] at b0 b1
  obtain ⟨p0, p1⟩ := hp
  have hlo := hF.lo
  have hbg : b ≠ g := by omega
  have h1 : w.cell? ⟨g, 1, none⟩ = some (.int .u32 (r : Int)) := hB.cell 1
  have h2 : w.cell? ⟨g, 2, none⟩ = some (.int .u32 (c : Int)) := hB.cell 2
  have h3 : w.cell? ⟨g, 3, none⟩ = some (.bool false) := hB.cell 3
  have z1 : w.frozen? ⟨g, 1, none⟩ = false := hB.free 1
  have hx : w.cell? ⟨b, i, none⟩ = some (.int .u16 (p : Int)) := by rw [hpi]; exact hR.cell hi
  have zx : w.frozen? ⟨b, i, none⟩ = false := hR.free i
  have e0 : IntKind.u32.wrap (p : Int) = (p : Int) := u32_of _ (by omega) (by omega)
  have e1 : IntKind.u32.wrap ((r : Int) / 2048 * (p : Int)) = (z : Int) := by
    rw [show (r : Int) / 2048 * (p : Int) = (z : Int) by rw [hz]; simp]
    exact u32_of _ (by omega) (by omega)
  have e1' : IntKind.u32.wrap ((r : Int) / 2048) = (r : Int) / 2048 := u32_of _ (by omega) (by omega)
  have hlt' : (c : Int) < (z : Int) := by omega
  clear hz hpi
  have e2 : IntKind.u16.wrap (2048 - (p : Int)) = 2048 - (p : Int) := u16_in _ (by omega)
  obtain ⟨u, hu⟩ : ∃ u, u = (2048 - p) / 32 := ⟨_, rfl⟩
  have e3 : IntKind.u16.wrap ((2048 - (p : Int)).tdiv 32) = (u : Int) := by
    rw [Int.tdiv_eq_ediv_of_nonneg (by omega), show (2048 - (p : Int)) / 32 = (u : Int) by omega]
    exact u16_in _ (by omega)
  have hup : up0 p = p + u := by unfold up0; omega
  have e5 : IntKind.u16.wrap ((p : Int) + (u : Int)) = ((p + u : Nat) : Int) := by rw [← Int.natCast_add]; exact u16_in _ (by omega)
  rw [hup]
  clear hu hup
  generalize p + u = q at *
  have hO1 : ∀ n, Only (fun j => j = g) w ((w.setCell ⟨g, 1, none⟩ (.int .u32 (z : Int))).drewN n) := fun n => ((Only.refl (fun j => j = g) w).setCell (p := ⟨g, 1, none⟩) (.inl rfl) _).drewN n
  have hO : ∀ n, Only (fun j => j = g ∨ j = b) w (((w.setCell ⟨g, 1, none⟩ (.int .u32 (z : Int))).drewN n).setCell ⟨b, i, none⟩ (.int .u16 (q : Int))) := fun n => ((hO1 n).mono (fun j hj => .inl hj)).setCell (p := ⟨b, i, none⟩) (.inl (.inr rfl)) _
  have hB1 : ∀ n, Blk (((w.setCell ⟨g, 1, none⟩ (.int .u32 (z : Int))).drewN n).setCell ⟨b, i, none⟩ (.int .u16 (q : Int))) g 128 (pdCells f z c false) := fun n => ((hB.put 1 _).drewN n).far hbg.symm _
  have HR := Lib.hid (fun n => (hR.only (hO1 n) hbg).put i q)
  have K := Lib.hid (fun n => even_any (hB1 n) (hF.only (hO n) (fun j hj => by omega)) hfg (by omega) (Nat.le_of_lt hlt))
  have HO := Lib.hid (fun n => (hO n).mono (S' := three f g b) (fun j hj => by rcases hj with hj | hj; exact .inr (.inl hj); exact .inr (.inr hj)))
  clear hB hF hR hB1 hO hO1
  go_enter Try.func74, Try.ntmps74
  go_wp2_with fail
  go_quiet (fail)
  go_wp2_with fail
  go_region
  all_goals go_wp2_with fail
  refine (K.out (nq + 1)).mono ?_
  rintro e w1 ⟨rfl, ⟨at', r', c', bad', hB2, hF2, _, ht⟩, hO2⟩
  have HB2 := Lib.hid hB2
  have HF2 := Lib.hid hF2
  have HT := Lib.hid ht
  have HR2 := Lib.hid ((HR.out (nq + 1)).only hO2 (by intro h; rcases h with h | h; omega; omega))
  have HO2 := Lib.hid ((HO.out (nq + 1)).trans (hO2.mono fun j hj => two_three hj))
  have KT := Lib.hid (told_any (x := 0) hB2)
  clear hB2 hF2 ht hO2 HO K HR h1 h2 h3 z1 hx zx
  go_wp2_with fail
  refine KT.out.mono ?_
  rintro e w2 ⟨rfl, rfl⟩
  go_wp2_with fail
  go_ret
  exact ⟨by simp, ⟨at', r', c', bad', HB2.out, HF2.out, hfg, HT.out⟩, HR2.out, HO2.out⟩

set_option maxRecDepth 100000 in
set_option maxHeartbeats 4000000 in
theorem bit_one {z v : Nat} {d1 : Dc} (hd1 : lvl (r - z) (c - z) (bs.drop at_) = d1) (hv : v = if d1 = none then 0 else 1) (hz : z = r / 2048 * p) (hB : Blk w g 128 (pdCells f r c false)) (hF : Feed w f lo bs at_) (hfg : f < g) (hR : Row w b ps pc) (hi : i < ps.length) (hpi : p = ps.getD i 0) (hb : b < lo ∨ g < b)
    (hr0 : 16777216 ≤ r) (hr : r < 4294967296) (hcr : c < r) (hp : POk p) (hlt : ¬ c < z) :
    Calls Try.prog 74 #[.pointer (some ⟨g, 0, none⟩), .pointer (some ⟨b, i, none⟩)] w (TellPost w g f lo b bs (ps.set i (up1 p)) pc v d1) := by
  obtain ⟨b0, b1⟩ := bound_in hr0 hr hp
  rw [← hz] at b0 b1
  obtain ⟨p0, p1⟩ := hp
  have hlo := hF.lo
  have hbg : b ≠ g := by omega
  have h1 : w.cell? ⟨g, 1, none⟩ = some (.int .u32 (r : Int)) := hB.cell 1
  have h2 : w.cell? ⟨g, 2, none⟩ = some (.int .u32 (c : Int)) := hB.cell 2
  have h3 : w.cell? ⟨g, 3, none⟩ = some (.bool false) := hB.cell 3
  have z1 : w.frozen? ⟨g, 1, none⟩ = false := hB.free 1
  have z2 : w.frozen? ⟨g, 2, none⟩ = false := hB.free 2
  have hx : w.cell? ⟨b, i, none⟩ = some (.int .u16 (p : Int)) := by rw [hpi]; exact hR.cell hi
  have zx : w.frozen? ⟨b, i, none⟩ = false := hR.free i
  have e0 : IntKind.u32.wrap (p : Int) = (p : Int) := u32_of _ (by omega) (by omega)
  have e1 : IntKind.u32.wrap ((r : Int) / 2048 * (p : Int)) = (z : Int) := by
    rw [show (r : Int) / 2048 * (p : Int) = (z : Int) by rw [hz]; simp]
    exact u32_of _ (by omega) (by omega)
  have e1' : IntKind.u32.wrap ((r : Int) / 2048) = (r : Int) / 2048 := u32_of _ (by omega) (by omega)
  have hlt' : ¬ (c : Int) < (z : Int) := by omega
  clear hz hpi
  have e2 : IntKind.u32.wrap ((c : Int) - (z : Int)) = ((c - z : Nat) : Int) := by rw [show (c : Int) - (z : Int) = ((c - z : Nat) : Int) by omega]; exact u32_of _ (by omega) (by omega)
  have e3 : IntKind.u32.wrap ((r : Int) - (z : Int)) = ((r - z : Nat) : Int) := by rw [show (r : Int) - (z : Int) = ((r - z : Nat) : Int) by omega]; exact u32_of _ (by omega) (by omega)
  have hup : up1 p = p - p / 32 := rfl
  have e5 : IntKind.u16.wrap ((p : Int) - (p : Int) / 32) = ((p - p / 32 : Nat) : Int) := by rw [show (p : Int) - (p : Int) / 32 = ((p - p / 32 : Nat) : Int) by omega]; exact u16_in _ (by omega)
  have e6 : IntKind.u16.wrap ((p : Int) / 32) = (p : Int) / 32 := u16_in _ (by omega)
  rw [hup]
  clear hup
  generalize p - p / 32 = q at *
  have hO1 : ∀ n, Only (fun j => j = g) w (((w.setCell ⟨g, 2, none⟩ (.int .u32 ((c - z : Nat) : Int))).setCell ⟨g, 1, none⟩ (.int .u32 ((r - z : Nat) : Int))).drewN n) := fun n => (((Only.refl (fun j => j = g) w).setCell (p := ⟨g, 2, none⟩) (.inl rfl) _).setCell (p := ⟨g, 1, none⟩) (.inl rfl) _).drewN n
  have hO : ∀ n, Only (fun j => j = g ∨ j = b) w ((((w.setCell ⟨g, 2, none⟩ (.int .u32 ((c - z : Nat) : Int))).setCell ⟨g, 1, none⟩ (.int .u32 ((r - z : Nat) : Int))).drewN n).setCell ⟨b, i, none⟩ (.int .u16 (q : Int))) := fun n => ((hO1 n).mono (fun j hj => .inl hj)).setCell (p := ⟨b, i, none⟩) (.inl (.inr rfl)) _
  have hB1 : ∀ n, Blk ((((w.setCell ⟨g, 2, none⟩ (.int .u32 ((c - z : Nat) : Int))).setCell ⟨g, 1, none⟩ (.int .u32 ((r - z : Nat) : Int))).drewN n).setCell ⟨b, i, none⟩ (.int .u16 (q : Int))) g 128 (pdCells f (r - z) (c - z) false) := fun n => (((hB.put 2 _).put 1 _).drewN n).far hbg.symm _
  have HR := Lib.hid (fun n => (hR.only (hO1 n) hbg).put i q)
  have K := Lib.hid (fun n => even_any (hB1 n) (hF.only (hO n) (fun j hj => by omega)) hfg (by omega) (by omega))
  have HO := Lib.hid (fun n => (hO n).mono (S' := three f g b) (fun j hj => by rcases hj with hj | hj; exact .inr (.inl hj); exact .inr (.inr hj)))
  have HD1 := Lib.hid hd1
  have HV := Lib.hid hv
  clear hB hF hR hB1 hO hO1 hd1 hv
  generalize r - z = r1 at *
  generalize c - z = c1 at *
  go_enter Try.func74, Try.ntmps74
  go_wp2_with fail
  go_quiet (fail)
  go_wp2_with fail
  go_region
  all_goals go_wp2_with fail
  refine (K.out (nq + 1)).mono ?_
  rintro e w1 ⟨rfl, ⟨at', r', c', bad', hB2, hF2, _, ht⟩, hO2⟩
  rw [HD1.out] at ht
  have HB2 := Lib.hid hB2
  have HF2 := Lib.hid hF2
  have HT := Lib.hid ht
  have HR2 := Lib.hid ((HR.out (nq + 1)).only hO2 (by intro h; rcases h with h | h; omega; omega))
  have HO2 := Lib.hid ((HO.out (nq + 1)).trans (hO2.mono fun j hj => two_three hj))
  have KT := Lib.hid (told_any (x := 1) hB2)
  have hv : v = if bad' = true then 0 else 1 := by
    rw [HV.out]
    rcases ht.2.2.2 with ⟨rfl, h⟩ | ⟨rfl, h⟩
    · rw [if_pos h, if_pos rfl]
    · rw [if_neg (by rw [h]; simp), if_neg (by simp)]
  have HV2 := Lib.hid hv
  clear hB2 hF2 ht hO2 HO K HR h1 h2 h3 z1 z2 hx zx hv HV
  cases bad'
  all_goals
    go_wp2_with fail
    refine KT.out.mono ?_
    rintro e w2 ⟨rfl, rfl⟩
    go_wp2_with fail
    go_ret
    refine ⟨?_, ⟨at', r', c', _, HB2.out, HF2.out, hfg, HT.out⟩, HR2.out, HO2.out⟩
    rw [HV2.out]
    rfl

/-- A bit, as the model tells it. -/
theorem tell_any {d : Dc} (h : Pd w g f lo bs d) (hd : DcOk d) (hR : Row w b ps pc) (hi : i < ps.length) (hb : b < lo ∨ g < b) (hp : POk (ps.getD i 0)) :
    Calls Try.prog 74 #[.pointer (some ⟨g, 0, none⟩), .pointer (some ⟨b, i, none⟩)] w
      (TellPost w g f lo b bs (ps.set i (bitD d (ps.getD i 0)).2.1) pc (bitD d (ps.getD i 0)).1 (bitD d (ps.getD i 0)).2.2) := by
  obtain ⟨at_, r, c, bad, hB, hF, hfg, h0, h1, h2, h3⟩ := h
  rcases h3 with ⟨rfl, rfl⟩ | ⟨rfl, rfl⟩
  · refine (bit_bad hB).mono ?_
    rintro e w' ⟨rfl, rfl⟩
    rw [bitD_none]
    refine ⟨rfl, ⟨at_, r, c, true, hB, hF, hfg, h0, h1, h2, .inl ⟨rfl, rfl⟩⟩, ?_, Only.refl _ _⟩
    show Row w b (ps.set i (ps.getD i 0)) pc
    rw [set_same_get ps i hi]
    exact hR
  · obtain ⟨d0, d1, d2⟩ := hd _ _ _ rfl
    unfold bitD
    simp only []
    by_cases hlt : c < r / 2048 * ps.getD i 0
    · rw [if_pos hlt]
      exact bit_zero rfl hB hF hfg hR hi rfl hb d0 d1 hp hlt
    · rw [if_neg hlt]
      refine (bit_one rfl rfl rfl hB hF hfg hR hi rfl hb d0 d1 d2 hp hlt).mono ?_
      intro e w' h
      cases hl : lvl (r - r / 2048 * ps.getD i 0) (c - r / 2048 * ps.getD i 0) (bs.drop at_) with
      | none => rw [hl] at h; exact h
      | some t => rw [hl] at h; exact h
end
end Go.Proofs.Ytjgdjobhhdhfjaa

/-
  The decoder tells numbers: straight, by a tree.
-/
namespace Go.Proofs.Ytjgdjobhhdhfjaa
open Go.RowKit

/-- What a number told straight leaves. -/
def NumPost (w : World) (g f lo : Nat) (bs : List UInt8) (v : Nat) (d : Dc) (e : Ending) (w' : World) : Prop :=
  e = .returned (.int .u32 (v : Int)) ∧ Pd w' g f lo bs d ∧ Only (two f g) w w'

section
variable {g f lo b pc : Nat} {w : World} {bs : List UInt8} {ps : List Nat}

set_option maxRecDepth 100000 in
set_option maxHeartbeats 2000000 in
theorem straight_any {d : Dc} {n : Nat} (h : Pd w g f lo bs d) (hd : DcOk d) (hn : n ≤ 32) :
    Calls Try.prog 132 #[.pointer (some ⟨g, 0, none⟩), .int .i64 (n : Int)] w (NumPost w g f lo bs (straightD n d).1 (straightD n d).2) := by
  have HP := Lib.hid h
  have HD := Lib.hid hd
  clear h hd
  go_enter Try.func132, Try.ntmps132
  go_wp2_with fail
  go_loopw [5, 7] (fun v i wr => ∃ (j x : Nat), j ≤ n ∧ i = .int .i64 (j : Int) ∧ v = .int .u32 (x : Int) ∧ x < 2 ^ j ∧ ((straightGo d j).2 ≠ none → x = (straightGo d j).1) ∧ Pd wr g f lo bs (straightGo d j).2 ∧ Only (two f g) w wr) (fun _ i _ => n - (intOf i).toNat)
  case atStart => exact ⟨0, 0, Nat.zero_le _, rfl, rfl, by decide, fun _ => rfl, HP.out, Only.refl _ _⟩
  case round =>
    clear HP
    obtain ⟨j, x, hj, rfl, rfl, hx, hv, hp, ho⟩ := hrel
    have HV := Lib.hid hv
    have HO := Lib.hid ho
    clear hv ho
    by_cases hlt : j < n
    · have K := Lib.hid (one_any hp (straightGo_ok HD.out j).1)
      have hx31 : x < 2147483648 := Nat.lt_of_lt_of_le hx (Nat.pow_le_pow_right (n := 2) (by omega) (show j ≤ 31 by omega))
      have hx2 : 2 * x + 1 < 2 ^ (j + 1) := by rw [Nat.pow_succ]; omega
      have HX2 := Lib.hid hx2
      have e1 : IntKind.u32.wrap (2 * (x : Int)) = 2 * (x : Int) := u32_of _ (by omega) (by omega)
      have hlt' : (j : Int) < (n : Int) := by omega
      clear hx hx2 hp
      go_wp2_with fail
      refine K.out.mono ?_
      rintro e w1 ⟨v, rfl, hv1, hv2, hp1, ho1⟩
      have e2 : IntKind.u32.wrap (2 * (x : Int) + (v : Int)) = ((2 * x + v : Nat) : Int) := by rw [show 2 * (x : Int) + (v : Int) = ((2 * x + v : Nat) : Int) by omega]; exact u32_of _ (by omega) (by omega)
      have HV2 := Lib.hid hv2
      have HP1 := Lib.hid hp1
      have HO1 := Lib.hid (HO.out.trans ho1)
      clear hv2 hp1 ho1 HO K
      go_wp2_with fail
      go_roundw
      case rel =>
        refine ⟨j + 1, 2 * x + v, by omega, by go_num, rfl, by have := HX2.out; omega, fun h => ?_, HP1.out, HO1.out⟩
        show _ = 2 * (straightGo d j).1 + (oneD (straightGo d j).2).1
        rw [HV2.out h, HV.out (fun h0 => h (by show (oneD (straightGo d j).2).2 = none; rw [h0]; rfl))]
      case measure => simp [intOf]; omega
    · obtain rfl : j = n := by omega
      obtain ⟨at_, r, c, bad, hB, hF, hfg, ht⟩ := hp
      have j3 : wr.cell? ⟨g, 3, none⟩ = some (.bool bad) := hB.cell 3
      have HB := Lib.hid hB
      have HF := Lib.hid hF
      have HT := Lib.hid ht
      clear hB hF ht hx
      cases bad
      · go_wp2_with fail
        go_ret
        refine ⟨?_, ⟨at_, r, c, _, HB.out, HF.out, hfg, HT.out⟩, HO.out⟩
        have hne : (straightGo d j).2 ≠ none := by
          rcases HT.out.2.2.2 with ⟨h, _⟩ | ⟨_, h⟩
          · cases h
          · rw [h]; simp
        unfold straightD
        rw [if_neg hne, ← HV.out hne]
        rfl
      · go_wp2_with fail
        go_ret
        refine ⟨?_, ⟨at_, r, c, _, HB.out, HF.out, hfg, HT.out⟩, HO.out⟩
        have hne : (straightGo d j).2 = none := by
          rcases HT.out.2.2.2 with ⟨_, h⟩ | ⟨h, _⟩
          · exact h
          · cases h
        unfold straightD
        rw [if_pos hne]
        rfl

theorem three_trans {a c : World} (h : Only (three f g b) w a) (k : Only (three f g b) a c) : Only (three f g b) w c := h.trans k

set_option maxRecDepth 100000 in
set_option maxHeartbeats 4000000 in
theorem tree_any {d : Dc} {a n len cap v : Nat} (hv : v = if (Tr.go a (Tr.begin ps d) n).d = none then 0 else (Tr.go a (Tr.begin ps d) n).m - 2 ^ n) (h : Pd w g f lo bs d) (hd : DcOk d) (hR : Row w b ps pc) (hps : PsOk ps) (hb : b < lo ∨ g < b) (hl : a + len = ps.length) (hn : 2 ^ n ≤ len) (hn8 : n ≤ 8) :
    Calls Try.prog 80 #[.pointer (some ⟨g, 0, none⟩), .slice (some ⟨b, a, none⟩) len cap, .int .i64 (n : Int)] w
      (TellPost w g f lo b bs (Tr.go a (Tr.begin ps d) n).ps pc v (Tr.go a (Tr.begin ps d) n).d) := by
  have HP := Lib.hid h
  have HR := Lib.hid hR
  have HT := Lib.hid (tr_ok hd hps (show a + 2 ^ n ≤ ps.length by omega))
  have HBL := Lib.hid hb
  have HV := Lib.hid hv
  clear h hd hR hps hb hv
  go_enter Try.func80, Try.ntmps80
  go_wp2_with fail
  go_loopw [7, 8, 9, 11] (fun v m _ i wr => ∃ (j x : Nat) (T : Tr), j ≤ n ∧ T = Tr.go a (Tr.begin ps d) j ∧ i = .int .i64 (j : Int) ∧ v = .int .i64 (x : Int) ∧ m = .int .i64 (T.m : Int) ∧ x + 2 ^ j = T.m ∧ Pd wr g f lo bs T.d ∧ Row wr b T.ps pc ∧ Only (three f g b) w wr) (fun _ _ _ i _ => n - (intOf i).toNat)
  case atStart => exact ⟨0, 0, _, Nat.zero_le _, rfl, rfl, rfl, rfl, rfl, HP.out, HR.out, Only.refl _ _⟩
  case round =>
    clear HP HR
    obtain ⟨j, x, T, hj, hT, rfl, rfl, rfl, hx, hp, hr, ho⟩ := hrel
    obtain ⟨t1, t2, t3, t4, t5, t6, t7⟩ := HT.out j hj
    rw [← hT] at t1 t2 t3 t4 t5 t6 t7
    have HO := Lib.hid ho
    have HT0 := Lib.hid hT
    clear ho hT t6 t7
    by_cases hlt : j < n
    · have hpow : 2 ^ (j + 1) ≤ 2 ^ n := Nat.pow_le_pow_right (by omega) hlt
      have h256 := pow8 hn8
      have K := Lib.hid (tell_any (i := a + T.m) hp t1 hr (by omega) HBL.out (getD_ok t2 (by omega)))
      have hm1 : (T.m : Int) < (len : Int) := by omega
      have hm0 : (0 : Int) ≤ (T.m : Int) := by omega
      have HST := Lib.hid (show T.step a = Tr.go a (Tr.begin ps d) (j + 1) by rw [HT0.out]; rfl)
      have hsm : (T.step a).m = 2 * T.m + (bitD T.d (T.ps.getD (a + T.m) 0)).1 := rfl
      have hsd : (T.step a).d = (bitD T.d (T.ps.getD (a + T.m) 0)).2.2 := rfl
      have hsp : (T.step a).ps = T.ps.set (a + T.m) (bitD T.d (T.ps.getD (a + T.m) 0)).2.1 := rfl
      have hu := (bitD_ok t1 (getD_ok t2 (show a + T.m < T.ps.length by omega))).1
      rw [← hsd, ← hsp] at K
      generalize (bitD T.d (T.ps.getD (a + T.m) 0)).1 = u at *
      have hlt' : (j : Int) < (n : Int) := by omega
      have hm5 : T.m < 512 := by omega
      have hx5 : x < 512 := by omega
      have e1 : IntKind.i64.wrap (2 * (x : Int)) = 2 * (x : Int) := IntWalk.i64_in _ (by omega)
      have e2 : IntKind.i64.wrap (2 * (T.m : Int)) = 2 * (T.m : Int) := IntWalk.i64_in _ (by omega)
      have e3 : IntKind.i64.wrap (2 * (x : Int) + (u : Int)) = ((2 * x + u : Nat) : Int) := by rw [show 2 * (x : Int) + (u : Int) = ((2 * x + u : Nat) : Int) by omega]; exact IntWalk.i64_in _ (by omega)
      have e4 : IntKind.i64.wrap (2 * (T.m : Int) + (u : Int)) = ((2 * T.m + u : Nat) : Int) := by rw [show 2 * (T.m : Int) + (u : Int) = ((2 * T.m + u : Nat) : Int) by omega]; exact IntWalk.i64_in _ (by omega)
      have HX := Lib.hid hx
      have HSM := Lib.hid hsm
      clear hp hr t1 t2 t3 t4 t5 hx hpow h256 hu hsm hsd hsp HT
      generalize T.step a = T' at *
      generalize T.m = y at *
      go_wp2_with fail
      refine K.out.mono ?_
      rintro e w1 ⟨rfl, hp1, hr1, ho1⟩
      have HP1 := Lib.hid hp1
      have HR1 := Lib.hid hr1
      have HO1 := Lib.hid (HO.out.trans ho1)
      clear hp1 hr1 ho1 HO K
      go_wp2_with fail
      go_roundw
      case rel =>
        refine ⟨j + 1, 2 * x + u, T', by omega, HST.out, by go_num, rfl, by rw [HSM.out]; go_num, ?_, HP1.out, HR1.out, HO1.out⟩
        have := HX.out
        have := HSM.out
        rw [Nat.pow_succ]
        omega
      case measure => simp [intOf]; omega
    · obtain rfl : j = n := by omega
      obtain ⟨at_, r, c, bad, hB, hF, hfg, ht⟩ := hp
      have HB := Lib.hid hB
      have HF := Lib.hid hF
      have HR := Lib.hid hr
      have HTD := Lib.hid ht
      have KT := Lib.hid (told_any (x := (x : Int)) hB)
      have hv : v = if bad = true then 0 else x := by
        rw [HV.out, ← HT0.out]
        rcases ht.2.2.2 with ⟨rfl, h⟩ | ⟨rfl, h⟩
        · rw [if_pos h, if_pos rfl]
        · rw [if_neg (by rw [h]; simp), if_neg (by simp)]
          omega
      clear hB hF ht hr hx t1 t2 t3 t4 t5 HT HV
      generalize T.m = y at *
      cases bad
      all_goals
        simp only [if_true, Bool.false_eq_true, if_false] at hv KT
        subst hv
        go_wp2_with fail
        refine KT.out.mono ?_
        rintro e w2 ⟨rfl, rfl⟩
        go_wp2_with fail
        go_ret
        rw [← HT0.out]
        exact ⟨rfl, ⟨at_, r, c, _, HB.out, HF.out, hfg, HTD.out⟩, HR.out, HO.out⟩
end
end Go.Proofs.Ytjgdjobhhdhfjaa

/-
  The decoder tells a number by a reverse tree.
-/
namespace Go.Proofs.Ytjgdjobhhdhfjaa
open Go.RowKit

section
variable {g f lo b pc : Nat} {w : World} {bs : List UInt8} {ps : List Nat}

theorem ofInt_u64' (a : Nat) (h : a < 18446744073709551616) : (BitVec.ofInt 64 (a : Int)).toNat = a := by simp; omega
theorem i64_or_nat (a b : Nat) (ha : a < 9223372036854775808) (hb : b < 9223372036854775808) : bits .or .i64 (a : Int) (b : Int) = ((a ||| b : Nat) : Int) := by
  have hx : a ||| b < 2 ^ 63 := Nat.or_lt_two_pow (by omega) (by omega)
  show IntKind.i64.wrap ((BitVec.ofInt 64 (a : Int) ||| BitVec.ofInt 64 (b : Int)).toNat : Int) = _
  rw [BitVec.toNat_or, ofInt_u64' a (by omega), ofInt_u64' b (by omega)]
  exact IntWalk.i64_in _ (by omega)
theorem i64_or_shift (o u j : Nat) (ho : o < 2 ^ j) (hu : u ≤ 1) (hj : j < 8) : bits .or .i64 (o : Int) (wrap64 ((u : Int) * 2 ^ j)) = ((o + u * 2 ^ j : Nat) : Int) := by
  have hp : 2 ^ j ≤ 2 ^ 7 := Nat.pow_le_pow_right (n := 2) (by omega) (show j ≤ 7 by omega)
  have hm : u * 2 ^ j ≤ 1 * 2 ^ j := Nat.mul_le_mul_right _ hu
  have hw : wrap64 (((u * 2 ^ j : Nat) : Int)) = ((u * 2 ^ j : Nat) : Int) := by
    unfold wrap64
    generalize u * 2 ^ j = y at *
    omega
  rw [cast_pow2, ← Int.natCast_mul, hw, i64_or_nat _ _ (by omega) (by omega)]
  congr 1
  rw [Nat.or_comm, nat_join j (u * 2 ^ j) o (Nat.mul_mod_left _ _) ho]
  omega

set_option maxRecDepth 100000 in
set_option maxHeartbeats 4000000 in
theorem rev_any {d : Dc} {a n len cap v : Nat} (hv : v = if (Tr.go a (Tr.begin ps d) n).d = none then 0 else (Tr.go a (Tr.begin ps d) n).o) (h : Pd w g f lo bs d) (hd : DcOk d) (hR : Row w b ps pc) (hps : PsOk ps) (hb : b < lo ∨ g < b) (hl : a + len = ps.length) (hn : 2 ^ n ≤ len) (hn8 : n ≤ 8) :
    Calls Try.prog 131 #[.pointer (some ⟨g, 0, none⟩), .slice (some ⟨b, a, none⟩) len cap, .int .i64 (n : Int)] w
      (TellPost w g f lo b bs (Tr.go a (Tr.begin ps d) n).ps pc v (Tr.go a (Tr.begin ps d) n).d) := by
  have HP := Lib.hid h
  have HR := Lib.hid hR
  have HT := Lib.hid (tr_ok hd hps (show a + 2 ^ n ≤ ps.length by omega))
  have HBL := Lib.hid hb
  have HV := Lib.hid hv
  clear h hd hR hps hb hv
  go_enter Try.func131, Try.ntmps131
  go_wp2_with fail
  go_loopw [7, 8, 9, 10, 12] (fun v m _ _ i wr => ∃ (j x : Nat) (T : Tr), j ≤ n ∧ T = Tr.go a (Tr.begin ps d) j ∧ i = .int .i64 (j : Int) ∧ v = .int .i64 (x : Int) ∧ m = .int .i64 (T.m : Int) ∧ x = T.o ∧ Pd wr g f lo bs T.d ∧ Row wr b T.ps pc ∧ Only (three f g b) w wr) (fun _ _ _ _ i _ => n - (intOf i).toNat)
  case atStart => exact ⟨0, 0, _, Nat.zero_le _, rfl, rfl, rfl, rfl, rfl, HP.out, HR.out, Only.refl _ _⟩
  case round =>
    clear HP HR
    obtain ⟨j, x, T, hj, hT, rfl, rfl, rfl, hx, hp, hr, ho⟩ := hrel
    obtain ⟨t1, t2, t3, t4, t5, t6, t7⟩ := HT.out j hj
    rw [← hT] at t1 t2 t3 t4 t5 t6 t7
    have HO := Lib.hid ho
    have HT0 := Lib.hid hT
    rw [← hx] at t7
    clear ho hT
    by_cases hlt : j < n
    · have hpow : 2 ^ (j + 1) ≤ 2 ^ n := Nat.pow_le_pow_right (by omega) hlt
      have h256 := pow8 hn8
      have K := Lib.hid (tell_any (i := a + T.m) hp t1 hr (by omega) HBL.out (getD_ok t2 (by omega)))
      have hm1 : (T.m : Int) < (len : Int) := by omega
      have hm0 : (0 : Int) ≤ (T.m : Int) := by omega
      have HST := Lib.hid (show T.step a = Tr.go a (Tr.begin ps d) (j + 1) by rw [HT0.out]; rfl)
      have hsm : (T.step a).m = 2 * T.m + (bitD T.d (T.ps.getD (a + T.m) 0)).1 := rfl
      have hso : (T.step a).o = T.o + (bitD T.d (T.ps.getD (a + T.m) 0)).1 * T.v := rfl
      have hsd : (T.step a).d = (bitD T.d (T.ps.getD (a + T.m) 0)).2.2 := rfl
      have hsp : (T.step a).ps = T.ps.set (a + T.m) (bitD T.d (T.ps.getD (a + T.m) 0)).2.1 := rfl
      have hu := (bitD_ok t1 (getD_ok t2 (show a + T.m < T.ps.length by omega))).1
      rw [← hsd, ← hsp] at K
      generalize (bitD T.d (T.ps.getD (a + T.m) 0)).1 = u at *
      have hlt' : (j : Int) < (n : Int) := by omega
      have hm5 : T.m < 512 := by omega
      have e1 := i64_or_shift x u j t7 hu (by omega)
      have e2 : IntKind.i64.wrap (2 * (T.m : Int)) = 2 * (T.m : Int) := IntWalk.i64_in _ (by omega)
      have e4 : IntKind.i64.wrap (2 * (T.m : Int) + (u : Int)) = ((2 * T.m + u : Nat) : Int) := by rw [show 2 * (T.m : Int) + (u : Int) = ((2 * T.m + u : Nat) : Int) by omega]; exact IntWalk.i64_in _ (by omega)
      rw [t6, ← hx] at hso
      have HSO := Lib.hid hso
      have HSM := Lib.hid hsm
      clear hp hr t1 t2 t3 t4 t5 t6 t7 hx hpow h256 hu hsm hsd hsp HT hso
      generalize x + u * 2 ^ j = x' at *
      generalize T.step a = T' at *
      generalize T.m = y at *
      go_wp2_with fail
      refine K.out.mono ?_
      rintro e w1 ⟨rfl, hp1, hr1, ho1⟩
      have HP1 := Lib.hid hp1
      have HR1 := Lib.hid hr1
      have HO1 := Lib.hid (HO.out.trans ho1)
      clear hp1 hr1 ho1 HO K
      go_wp2_with fail
      go_roundw
      case rel =>
        exact ⟨j + 1, x', T', by omega, HST.out, by go_num, rfl, by rw [HSM.out]; go_num, HSO.out.symm, HP1.out, HR1.out, HO1.out⟩
      case measure => simp [intOf]; omega
    · obtain rfl : j = n := by omega
      obtain ⟨at_, r, c, bad, hB, hF, hfg, ht⟩ := hp
      have HB := Lib.hid hB
      have HF := Lib.hid hF
      have HR := Lib.hid hr
      have HTD := Lib.hid ht
      have KT := Lib.hid (told_any (x := (x : Int)) hB)
      have hv : v = if bad = true then 0 else x := by
        rw [HV.out, ← HT0.out]
        rcases ht.2.2.2 with ⟨rfl, h⟩ | ⟨rfl, h⟩
        · rw [if_pos h, if_pos rfl]
        · rw [if_neg (by rw [h]; simp), if_neg (by simp), hx]
      clear hB hF ht hr hx t1 t2 t3 t4 t5 t6 t7 HT HV
      generalize T.m = y at *
      cases bad
      all_goals
        simp only [if_true, Bool.false_eq_true, if_false] at hv KT
        subst hv
        go_wp2_with fail
        refine KT.out.mono ?_
        rintro e w2 ⟨rfl, rfl⟩
        go_wp2_with fail
        go_ret
        rw [← HT0.out]
        exact ⟨rfl, ⟨at_, r, c, _, HB.out, HF.out, hfg, HTD.out⟩, HR.out, HO.out⟩
end
end Go.Proofs.Ytjgdjobhhdhfjaa

/-
  Bytes as a number, the greatest first.
-/
namespace Go.Proofs.Ytjgdjobhhdhfjaa

/-- bytes as a number, the greatest first -/
def be (l : List UInt8) : Nat := l.foldl (fun a b => a * 256 + b.toNat) 0
theorem be_nil : be [] = 0 := rfl
theorem be_snoc (l : List UInt8) (x : UInt8) : be (l ++ [x]) = be l * 256 + x.toNat := by simp [be]
theorem be_append (l k : List UInt8) : be (l ++ k) = be l * 256 ^ k.length + be k := by
  generalize hn : k.length = n
  induction n generalizing k with
  | zero => rw [List.eq_nil_of_length_eq_zero hn]; simp [be]
  | succ n ih =>
    have hne : k ≠ [] := by intro e; rw [e] at hn; cases hn
    rw [← List.dropLast_concat_getLast hne, ← List.append_assoc, be_snoc, be_snoc, ih k.dropLast (by simp [hn]), Nat.pow_succ, ← Nat.mul_assoc, Nat.add_mul]
    omega
theorem be_lt (l : List UInt8) : ∀ n, l.length = n → be l < 256 ^ n := by
  intro n
  induction n generalizing l with
  | zero => intro h; rw [List.eq_nil_of_length_eq_zero h]; decide
  | succ n ih =>
    intro h
    have hne : l ≠ [] := by intro e; rw [e] at h; cases h
    rw [← List.dropLast_concat_getLast hne, be_snoc, Nat.pow_succ]
    have := ih l.dropLast (by simp [h])
    have := (l.getLast hne).toNat_lt
    omega
theorem be_inj : ∀ (l k : List UInt8), l.length = k.length → be l = be k → l = k := by
  intro l
  generalize hn : l.length = n
  induction n generalizing l with
  | zero => intro k h _; rw [List.eq_nil_of_length_eq_zero hn, List.eq_nil_of_length_eq_zero h.symm]
  | succ n ih =>
    intro k h e
    have hl : l ≠ [] := by intro e; rw [e] at hn; cases hn
    have hk : k ≠ [] := by intro e; rw [e] at h; cases h
    rw [← List.dropLast_concat_getLast hl, ← List.dropLast_concat_getLast hk, be_snoc, be_snoc] at e
    have h1 := (l.getLast hl).toNat_lt
    have h2 := (k.getLast hk).toNat_lt
    have h3 := ih l.dropLast (by simp [hn]) k.dropLast (by simp [← h]) (by omega)
    have h4 : l.getLast hl = k.getLast hk := UInt8.toNat_inj.1 (by omega)
    rw [← List.dropLast_concat_getLast hl, ← List.dropLast_concat_getLast hk, h3, h4]
theorem be_zeros (n : Nat) : be (List.replicate n 0) = 0 := by
  induction n with
  | zero => rfl
  | succ n ih => rw [List.replicate_succ', be_snoc, ih]; rfl
/-- the first l of the bytes, and what is behind -/
theorem be_take (bs : List UInt8) (l : Nat) : be (bs.take l) * 256 ^ (bs.length - l) ≤ be bs ∧ be bs < (be (bs.take l) + 1) * 256 ^ (bs.length - l) := by
  have e := be_append (bs.take l) (bs.drop l)
  rw [List.take_append_drop, List.length_drop] at e
  have h := be_lt (bs.drop l) (bs.length - l) (by simp)
  rw [Nat.add_mul]
  omega
theorem be_take_succ {bs : List UInt8} {l : Nat} (h : l < bs.length) : be (bs.take (l + 1)) = be (bs.take l) * 256 + (bs[l]).toNat := by
  rw [List.take_succ_eq_append_getElem h, be_snoc]
/-- a number of few digits begins with a byte 0 -/
theorem be_head {z : UInt8} {t : List UInt8} (h : be (z :: t) < 256 ^ t.length) : z = 0 := by
  have e : z :: t = [z] ++ t := rfl
  rw [e, be_append] at h
  have : be [z] = z.toNat := by simp [be]
  rw [this] at h
  apply UInt8.toNat_inj.1
  rcases Nat.eq_zero_or_pos z.toNat with h0 | h0
  · exact h0
  · have := Nat.mul_le_mul_right (256 ^ t.length) h0
    omega
end Go.Proofs.Ytjgdjobhhdhfjaa
