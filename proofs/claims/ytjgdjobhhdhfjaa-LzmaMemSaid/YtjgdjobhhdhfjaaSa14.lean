/-
  LwMid, LwSet: put together.
-/
import Derived.Test.YtjgdjobhhdhfjaaSa13
import Derived.Deep.RegionHeld3
import Derived.Test.YtjgdjobhhdhfjaaSa08
import Derived.Test.YtjgdjobhhdhfjaaSa01
import Derived.Deep.Cut
set_option linter.unusedVariables false
set_option linter.unusedSimpArgs false
/-
  The program's decoder of LZMA: its small calls: the place's bits, which packet, which elder distance.
-/
namespace Go.Proofs.Ytjgdjobhhdhfjaa
open Go.RowKit

/-! ### a machine that is dead changes nothing; what is wanted of a decoder doesn't matter -/
theorem set_self (ps : List Nat) (a : Nat) : ps.set a (ps.getD a 0) = ps := by
  by_cases h : a < ps.length
  · exact set_same_get ps a h
  · exact List.set_eq_of_length_le (by omega)
theorem bitP_none {t : Pm Dc} {a : Nat} {w : Int} (h : t.x = none) : bitP decM t a w = (0, t) := by
  show ((bitD t.x (t.ps.getD a 0)).1, (⟨t.ps.set a (bitD t.x (t.ps.getD a 0)).2.1, (bitD t.x (t.ps.getD a 0)).2.2⟩ : Pm Dc)) = _
  rw [h]
  show (0, (⟨t.ps.set a (t.ps.getD a 0), none⟩ : Pm Dc)) = _
  rw [set_self, ← h]
theorem treeG_none {t : Pm Dc} {a n : Nat} {v : Int} (h : t.x = none) : ∀ j, (treeG decM t a n v j).t = t
  | 0 => rfl
  | j + 1 => by
    show (bitP decM (treeG decM t a n v j).t _ _).2 = t
    rw [treeG_none h j, bitP_none h]
theorem revG_none {t : Pm Dc} {a : Nat} {v : Int} (h : t.x = none) : ∀ j, (revG decM t a v j).t = t
  | 0 => rfl
  | j + 1 => by
    show (bitP decM (revG decM t a v j).t _ _).2 = t
    rw [revG_none h j, bitP_none h]
theorem treeP_none {t : Pm Dc} {a n : Nat} {v : Int} (h : t.x = none) : (treeP decM t a n v).2 = t := treeG_none h n
theorem revP_none {t : Pm Dc} {a n : Nat} {v : Int} (h : t.x = none) : (revP decM t a n v).2 = t := revG_none h n
theorem treeG_dec {t : Pm Dc} {a n : Nat} (v v' : Int) : ∀ j, treeG decM t a n v j = treeG decM t a n v' j
  | 0 => rfl
  | j + 1 => by
    show tgStep decM a j _ (treeG decM t a n v j) = tgStep decM a j _ (treeG decM t a n v' j)
    rw [treeG_dec v v' j]
    rfl
theorem revG_dec {t : Pm Dc} {a : Nat} (v v' : Int) : ∀ j, revG decM t a v j = revG decM t a v' j
  | 0 => rfl
  | j + 1 => by
    show tgStep decM a j _ (revG decM t a v j) = tgStep decM a j _ (revG decM t a v' j)
    rw [revG_dec v v' j]
    rfl
theorem treeP_dec {t : Pm Dc} {a n : Nat} (v v' : Int) : treeP decM t a n v = treeP decM t a n v' := by
  unfold treeP
  rw [treeG_dec v v']
theorem revP_dec {t : Pm Dc} {a n : Nat} (v v' : Int) : revP decM t a n v = revP decM t a n v' := by
  unfold revP
  rw [revG_dec v v']
theorem distB_none {b : Nat × Pm Dc} {v : Nat} (h : b.2.x = none) : (distB decM b v).2 = b.2 := by
  unfold distB
  split
  · rfl
  split
  · exact revP_none h
  · unfold distC
    have e : (decM.str b.2.x (b.1 / 2 - 1 - 4) ((v + 4294967296 - (2 + b.1 % 2) * 2 ^ (b.1 / 2 - 1)) % 4294967296 / 16)).2 = none := by
      show (straightD _ b.2.x).2 = none
      rw [h, straightD_none]
    rw [e]
    have : (⟨b.2.ps, none⟩ : Pm Dc) = b.2 := by rw [← h]
    rw [this]
    exact revP_none h
theorem distP_none {t : Pm Dc} {l v : Nat} (h : t.x = none) : (distP decM t l v).2 = t := by
  have h1 : (treeP decM t (432 + 64 * min l 3) 6 (slotOf v : Int)).2 = t := treeP_none h
  unfold distP
  rw [distB_none (by rw [h1]; exact h), h1]

/-! ### where a probability lies -/
section
variable {K : Kon} {w w' : World} {Gw : Nat → Prop} {z : Lzs} {t : Pm Dc} {left : Nat}
theorem Kon.lay (K : Kon) : Lay K.ad K.g 15 := fun a ha => by unfold Kon.ad; rw [if_pos ha]
theorem Kon.ad_low {a i : Nat} (h : a < 192) (hi : i = 15 + a) : K.ad a = (K.g, i) := K.lay.low h hi
theorem Kon.ad_rep {a i : Nat} (h : 192 ≤ a) (h1 : a < 240) (hi : i = 15 + (a + 192)) : K.ad a = (K.g, i) := K.lay.rep h h1 hi
theorem Kon.ad_long {a i : Nat} (h : 240 ≤ a) (h1 : a < 432) (hi : i = 15 + (a - 48)) : K.ad a = (K.g, i) := K.lay.long h h1 hi
theorem Kon.ad_slot {a i : Nat} (h : 432 ≤ a) (h1 : a < 688) (hi : i = 15 + (a + 1159)) : K.ad a = (K.g, i) := K.lay.slot h h1 hi
theorem Kon.ad_rest {a i : Nat} (h : 688 ≤ a) (h1 : a < 1847) (hi : i = 15 + (a - 256)) : K.ad a = (K.g, i) := K.lay.rest h h1 hi
theorem Kon.ad_lit {a i : Nat} (h : 1847 ≤ a) (hi : i = a - 1847) : K.ad a = (K.lb, i) := by
  unfold Kon.ad
  rw [if_neg (by omega), hi]

theorem Lw.bit (h : Lw K w Gw z t left) {a b i : Nat} (k : Int) (hab : K.ad a = (b, i)) (ha : a < 1847 + K.nl) :
    Calls Try.prog 74 #[.pointer (some ⟨K.dg, 0, none⟩), .pointer (some ⟨b, i, none⟩)] w (MidPost K w Gw (.int .i64 ((bitP decM t a k).1 : Int)) z (bitP decM t a k).2 left) :=
  (lw_bit (K.prb _ h.ap.gn) h.ap.b0 hab ha h.mch).mono fun _ _ hp => h.bits hp
/-- a value that is told, by a machine that may be dead then -/
def Alive (t : Pm Dc) (v u : Nat) : Nat := if t.x = none then v else u
def TreePost (K : Kon) (w : World) (Gw : Nat → Prop) (z : Lzs) (r : Nat × Pm Dc) (left : Nat) (e : Ending) (w' : World) : Prop := MidPost K w Gw (.int .i64 (Alive r.2 0 r.1 : Nat)) z r.2 left e w'
theorem Lw.tree (h : Lw K w Gw z t left) {a n b o len cap : Nat} (v : Int) (had : ∀ m, m < 2 ^ n → K.ad (a + m) = (b, o + m)) (haL : a + 2 ^ n ≤ 1847 + K.nl) (hn : 2 ^ n ≤ len) (hn8 : n ≤ 8) :
    Calls Try.prog 80 #[.pointer (some ⟨K.dg, 0, none⟩), .slice (some ⟨b, o, none⟩) len cap, .int .i64 (n : Int)] w (TreePost K w Gw z (treeP decM t a n v) left) := by
  rw [treeP_dec v 0]
  exact (lw_tree (K.prb _ h.ap.gn) h.ap.b0 had haL rfl h.mch hn hn8).mono fun _ _ hp => h.bits hp
theorem Lw.rev (h : Lw K w Gw z t left) {a n b o len cap : Nat} (v : Int) (had : ∀ m, m < 2 ^ n → K.ad (a + m) = (b, o + m)) (haL : a + 2 ^ n ≤ 1847 + K.nl) (hn : 2 ^ n ≤ len) (hn8 : n ≤ 8) :
    Calls Try.prog 131 #[.pointer (some ⟨K.dg, 0, none⟩), .slice (some ⟨b, o, none⟩) len cap, .int .i64 (n : Int)] w (TreePost K w Gw z (revP decM t a n v) left) := by
  rw [revP_dec v 0]
  exact (lw_rev (K.prb _ h.ap.gn) h.ap.b0 had haL rfl h.mch hn hn8).mono fun _ _ hp => h.bits hp
theorem Lw.straight (h : Lw K w Gw z t left) {n : Nat} (hn : n ≤ 32) :
    Calls Try.prog 132 #[.pointer (some ⟨K.dg, 0, none⟩), .int .i64 (n : Int)] w (MidPost K w Gw (.int .u32 ((straightD n t.x).1 : Int)) z ⟨t.ps, (straightD n t.x).2⟩ left) :=
  (lw_straight (K.prb _ h.ap.gn) h.ap.b0 h.mch hn).mono fun _ _ hp => h.bits hp
theorem Lw.isBad (h : Lw K w Gw z t left) : Calls Try.prog 73 #[.pointer (some ⟨K.dg, 0, none⟩)] w fun e w' => e = .returned (.bool (decM.bad t.x)) ∧ w = w' := lw_bad h.mch

/-- what its fields hold -/
structure Lf (K : Kon) (w : World) (z : Lzs) (left : Nat) : Prop where
  c0 : w.cell? ⟨K.g, 0, none⟩ = some (.int .i64 (z.lc : Int))
  c1 : w.cell? ⟨K.g, 1, none⟩ = some (.int .i64 (z.lp : Int))
  c2 : w.cell? ⟨K.g, 2, none⟩ = some (.int .i64 (z.pb : Int))
  c4 : w.cell? ⟨K.g, 4, none⟩ = some (.iface 35 (.pointer (some ⟨K.f, 0, none⟩)))
  c5 : w.cell? ⟨K.g, 5, none⟩ = some (.pointer (some ⟨K.dg, 0, none⟩))
  c6 : w.cell? ⟨K.g, 6, none⟩ = some (.pointer (some ⟨K.wg, 0, none⟩))
  c7 : w.cell? ⟨K.g, 7, none⟩ = some (.pointer (some ⟨K.m, 0, none⟩))
  c8 : w.cell? ⟨K.g, 8, none⟩ = some (.int .i64 K.room)
  c9 : w.cell? ⟨K.g, 9, none⟩ = some (.int .i64 (z.out.length : Int))
  c10 : w.cell? ⟨K.g, 10, none⟩ = some (.int .i64 (z.st : Int))
  c11 : w.cell? ⟨K.g, 11, none⟩ = some (.int .u32 (z.r0 : Int))
  c12 : w.cell? ⟨K.g, 12, none⟩ = some (.int .u32 (z.r1 : Int))
  c13 : w.cell? ⟨K.g, 13, none⟩ = some (.int .u32 (z.r2 : Int))
  c14 : w.cell? ⟨K.g, 14, none⟩ = some (.int .u32 (z.r3 : Int))
  lits : w.cell? ⟨K.g, 1862, none⟩ = some (.slice (some ⟨K.lb, 0, none⟩) K.nl K.nl)
  left : w.cell? ⟨K.g, 1863, none⟩ = some (.int .i64 (left : Int))
  ended : w.cell? ⟨K.g, 1864, none⟩ = some (.bool z.ended)
  bad : w.cell? ⟨K.g, 1865, none⟩ = some (.bool z.bad)
  fz : ∀ i, w.frozen? ⟨K.g, i, none⟩ = false
theorem Lw.f (h : Lw K w Gw z t left) : Lf K w z left :=
  ⟨h.dec.cell 0 (by decide), h.dec.cell 1 (by decide), h.dec.cell 2 (by decide), h.dec.cell 4 (by decide), h.dec.cell 5 (by decide), h.dec.cell 6 (by decide), h.dec.cell 7 (by decide), h.dec.cell 8 (by decide), h.dec.cell 9 (by decide), h.dec.cell 10 (by decide),
    h.dec.cell 11 (by decide), h.dec.cell 12 (by decide), h.dec.cell 13 (by decide), h.dec.cell 14 (by decide), h.dec.cell 15 (by decide), h.dec.cell 16 (by decide), h.dec.cell 17 (by decide), h.dec.cell 18 (by decide), fun i => h.dec.free i⟩

set_option maxRecDepth 100000 in
set_option maxHeartbeats 1000000 in
theorem lplace_any (h : Lw K w Gw z t left) (hp : z.pb ≤ 4) (ho : z.out.length ≤ 1000000) :
    Calls Try.prog 75 #[.pointer (some ⟨K.g, 0, none⟩)] w fun e w' => e = .returned (.int .i64 ((z.out.length % 2 ^ z.pb : Nat) : Int)) ∧ ∃ n, w.drewN n = w' := by
  have c9 := h.f.c9
  have c2 := h.f.c2
  have e0 := i64_and_low z.out.length z.pb (by omega) (by omega)
  have HE0 := Lib.hid e0
  clear h e0
  generalize z.out.length = n at *
  generalize z.pb = k at *
  go_enter Try.func75, Try.ntmps75
  go_wp2_with fail
  go_quiet (fail)
  go_wp2_with fail
  go_ret
  exact ⟨congrArg (fun x => Ending.returned (.int .i64 x)) HE0.out, _, rfl⟩

theorem lplace_mid (h : Lw K w Gw z t left) (hp : z.pb ≤ 4) (ho : z.out.length ≤ 1000000) :
    Calls Try.prog 75 #[.pointer (some ⟨K.g, 0, none⟩)] w (MidPost K w Gw (.int .i64 ((z.out.length % 2 ^ z.pb : Nat) : Int)) z t left) := by
  refine (lplace_any h hp ho).mono ?_
  rintro e w' ⟨rfl, n, rfl⟩
  exact ⟨rfl, h.drewN n, (Only.refl _ w).drewN n⟩

set_option maxRecDepth 100000 in
set_option maxHeartbeats 2000000 in
theorem lstart_any (h : Lw K w Gw z t left) (hs : z.st ≤ 11) (hp : z.pb ≤ 4) (ho : z.out.length ≤ 1000000) :
    Calls Try.prog 44 #[.pointer (some ⟨K.g, 0, none⟩)] w
      (MidPost K w Gw (.bool (decide ((bitP decM t (16 * z.st + z.out.length % 2 ^ z.pb) 0).1 = 0))) z (bitP decM t (16 * z.st + z.out.length % 2 ^ z.pb) 0).2 left) := by
  have c10 := h.f.c10
  have c5 := h.f.c5
  have KP := Lib.hid (fun n => lplace_any (h.drewN n) hp ho)
  have hs15 := mod_pb (n := z.out.length) hp
  obtain ⟨s, hs2⟩ : ∃ s, s = z.out.length % 2 ^ z.pb := ⟨_, rfl⟩
  rw [← hs2] at KP hs15 ⊢
  have KB := Lib.hid (fun n => (h.drewN n).bit (a := 16 * z.st + s) (b := K.g) (i := 15 + z.st * 16 + s) 0 (Kon.ad_low (by omega) (by omega)) (by omega))
  obtain ⟨B, hB⟩ : ∃ B, B = bitP decM t (16 * z.st + s) 0 := ⟨_, rfl⟩
  rw [← hB] at KB ⊢
  obtain ⟨st, hst⟩ : ∃ st, st = z.st := ⟨_, rfl⟩
  rw [← hst] at c10 KB
  have i1 : (st : Int) < 12 := by omega
  have i0 : (0 : Int) ≤ (st : Int) := by omega
  have j1 : (s : Int) < 16 := by omega
  have j0 : (0 : Int) ≤ (s : Int) := by omega
  have hu : ((B.1 : Int) == 0) = decide (B.1 = 0) := by rw [Bool.eq_iff_iff]; simp
  have HST := Lib.hid hst
  clear h hst hs2 hB hs15 hs hp ho
  go_enter Try.func44, Try.ntmps44
  go_wp2_with fail
  go_region_held3 (fun w' => w'.cell? ⟨K.g, 5, none⟩ = some (.pointer (some ⟨K.dg, 0, none⟩)) ∧ w'.cell? ⟨K.g, 10, none⟩ = some (.int .i64 (st : Int)))
    (first | assumption | go_keep | exact ⟨c5, c10⟩ | exact ⟨e5, e10⟩)
    (first
      | (go_at_call 75; refine (KP.out 1).mono ?_; rintro e w1 ⟨rfl, n1, rfl⟩; clear KP)
      | (go_at_call 74; refine (KB.out _).mono ?_; rintro e w2 ⟨rfl, hz2, ho2⟩; have e5 := hz2.f.c5; have e10 := hz2.f.c10; rw [← HST.out] at e10; have HZ2 := Lib.hid hz2; have HO2 := Lib.hid (Only.of_drewN ho2); clear hz2 ho2 KB))
  go_wp2_with fail
  go_ret
  exact ⟨rfl, HZ2.out, HO2.out⟩

def ElderPost (K : Kon) (w : World) (Gw : Nat → Prop) (z : Lzs) (t : Pm Dc) (left : Nat) (e : Ending) (w' : World) : Prop :=
  ((bitP decM t (216 + z.st) 0).1 = 0 ∧ MidPost K w Gw (.int .i64 ((1 : Nat) : Int)) z (bitP decM t (216 + z.st) 0).2 left e w') ∨
  ((bitP decM t (216 + z.st) 0).1 ≠ 0 ∧ MidPost K w Gw (.int .i64 ((2 + (bitP decM (bitP decM t (216 + z.st) 0).2 (228 + z.st) 0).1 : Nat) : Int)) z (bitP decM (bitP decM t (216 + z.st) 0).2 (228 + z.st) 0).2 left e w')

set_option maxRecDepth 100000 in
set_option maxHeartbeats 2000000 in
theorem lelder_any (h : Lw K w Gw z t left) (hs : z.st ≤ 11) :
    Calls Try.prog 122 #[.pointer (some ⟨K.g, 0, none⟩)] w (ElderPost K w Gw z t left) := by
  have c10 := h.f.c10
  have c5 := h.f.c5
  have KB := Lib.hid ((h.drewN 1).bit (a := 216 + z.st) (b := K.g) (i := 423 + z.st) 0 (Kon.ad_rep (by omega) (by omega) (by omega)) (by omega))
  have KB2 := Lib.hid (fun (w1 : World) (h1 : Lw K w1 Gw z (bitP decM t (216 + z.st) 0).2 left) => (h1.drewN 1).bit (a := 228 + z.st) (b := K.g) (i := 435 + z.st) 0 (Kon.ad_rep (by omega) (by omega) (by omega)) (by omega))
  have hb1 := (bitP_ok decM_ok (k := 0) (a := 216 + z.st) (w := 0) (okD_any h.mch.ok) (by omega) (fun h => by cases h))
  have hb2 := (bitP_ok decM_ok (k := 0) (a := 228 + z.st) (w := 0) (okD_any hb1.2) (by omega) (fun h => by cases h)).1
  unfold ElderPost
  obtain ⟨B, hB⟩ : ∃ B, B = bitP decM t (216 + z.st) 0 := ⟨_, rfl⟩
  rw [← hB] at KB KB2 hb1 hb2 ⊢
  obtain ⟨B2, hB2⟩ : ∃ B2, B2 = bitP decM B.2 (228 + z.st) 0 := ⟨_, rfl⟩
  rw [← hB2] at KB2 hb2 ⊢
  obtain ⟨st, hst⟩ : ∃ st, st = z.st := ⟨_, rfl⟩
  rw [← hst] at c10 KB KB2
  have i1 : (st : Int) < 12 := by omega
  have i0 : (0 : Int) ≤ (st : Int) := by omega
  have e2 : IntKind.i64.wrap (2 + (B2.1 : Int)) = ((2 + B2.1 : Nat) : Int) := by rw [show 2 + (B2.1 : Int) = ((2 + B2.1 : Nat) : Int) by omega]; exact IntWalk.i64_in _ (by omega)
  have HST := Lib.hid hst
  clear h hst hB hB2 hs hb1 hb2
  by_cases hu : B.1 = 0
  · have hu2 : ((B.1 : Int) == 0) = true := by simp [hu]
    have HU := Lib.hid hu
    clear hu
    go_enter Try.func122, Try.ntmps122
    go_wp2_with fail
    go_still_tail 13, (by kernel_rfl)
    change wpList _ _ _ _ _ w.drew
    go_wp2_with fail
    refine KB.out.mono ?_
    rintro e w2 ⟨rfl, hz2, ho2⟩
    have HZ2 := Lib.hid hz2
    have HO2 := Lib.hid (Only.of_drewN ho2)
    clear hz2 ho2 KB
    go_wp2_with fail
    go_ret
    exact .inl ⟨HU.out, rfl, HZ2.out, HO2.out⟩
  · have hu2 : ((B.1 : Int) == 0) = false := by simp; omega
    have HU := Lib.hid hu
    clear hu
    go_enter Try.func122, Try.ntmps122
    go_wp2_with fail
    go_still_tail 13, (by kernel_rfl)
    change wpList _ _ _ _ _ w.drew
    go_wp2_with fail
    refine KB.out.mono ?_
    rintro e w2 ⟨rfl, hz2, ho2⟩
    have HO2 := Lib.hid (Only.of_drewN ho2)
    have e5 := hz2.f.c5
    have e10 := hz2.f.c10
    rw [← HST.out] at e10
    have KC := Lib.hid (KB2.out w2 hz2)
    clear hz2 ho2 KB KB2 c10 c5
    go_wp2_with fail
    go_still_tail 13, (by kernel_rfl)
    change wpList _ _ _ _ _ w2.drew
    go_wp2_with fail
    refine KC.out.mono ?_
    rintro e w3 ⟨rfl, hz3, ho3⟩
    have HZ3 := Lib.hid hz3
    have HO3 := Lib.hid (HO2.out.trans (Only.of_drewN ho3))
    clear hz3 ho3 KC
    go_wp2_with fail
    go_ret
    exact .inr ⟨HU.out, rfl, HZ3.out, HO3.out⟩
end
end Go.Proofs.Ytjgdjobhhdhfjaa

/-
  The program's settings of LZMA: whether one may be; how many probabilities there are.
-/
namespace Go.Proofs.Ytjgdjobhhdhfjaa
open Go.RowKit

def inB (n most : Int) : Bool := decide (0 ≤ n ∧ n ≤ most)
set_option maxRecDepth 100000 in
set_option maxHeartbeats 1000000 in
theorem pwithin_any (n most : Int) (w : World) : Calls Try.prog 93 #[.int .i64 n, .int .i64 most] w fun e w' => e = .returned (.bool (inB n most)) ∧ w = w' := by
  obtain ⟨v, hv⟩ : ∃ v, v = inB n most := ⟨_, rfl⟩
  rw [← hv]
  unfold inB at hv
  by_cases h0 : 0 ≤ n
  · have g0 : n ≥ 0 := h0
    by_cases h1 : n ≤ most
    · obtain rfl : v = true := by rw [hv]; exact decide_eq_true ⟨h0, h1⟩
      clear hv
      go_enter Try.func93, Try.ntmps93
      go_wp2_with fail
      go_ret
      exact ⟨rfl, rfl⟩
    · obtain rfl : v = false := by rw [hv]; exact decide_eq_false (fun h => h1 h.2)
      clear hv
      go_enter Try.func93, Try.ntmps93
      go_wp2_with fail
      go_ret
      exact ⟨rfl, rfl⟩
  · have g0 : ¬ n ≥ 0 := h0
    obtain rfl : v = false := by rw [hv]; exact decide_eq_false (fun h => h0 h.1)
    clear hv
    go_enter Try.func93, Try.ntmps93
    go_wp2_with fail
    go_ret
    exact ⟨rfl, rfl⟩

def mayB (a b c : Int) : Bool := inB a 8 && (inB b 4 && inB c 4)
set_option maxRecDepth 100000 in
set_option maxHeartbeats 4000000 in
theorem pbits_any (a b c d : Int) (w : World) : Calls Try.prog 50 #[.agg #[.int .i64 a, .int .i64 b, .int .i64 c, .int .i64 d]] w fun e w' => e = .returned (.bool (mayB a b c)) ∧ Below w.heap.size w w' := by
  have HB := Lib.hid ((Below.refl w.heap.size w).alloc (Nat.le_refl _) (.cells #[.int .i64 a, .int .i64 b, .int .i64 c, .int .i64 d] 24))
  have K1 := Lib.hid (fun w => pwithin_any a 8 w)
  have K2 := Lib.hid (fun w => pwithin_any b 4 w)
  have K3 := Lib.hid (fun w => pwithin_any c 4 w)
  obtain ⟨v, hv⟩ : ∃ v, v = mayB a b c := ⟨_, rfl⟩
  rw [← hv]
  unfold mayB at hv
  obtain ⟨x, hx⟩ : ∃ x, x = inB a 8 := ⟨_, rfl⟩
  obtain ⟨y, hy⟩ : ∃ x, x = inB b 4 := ⟨_, rfl⟩
  obtain ⟨z, hz⟩ : ∃ x, x = inB c 4 := ⟨_, rfl⟩
  rw [← hx] at K1 hv
  rw [← hy] at K2 hv
  rw [← hz] at K3 hv
  clear hx hy hz
  cases x with
  | false =>
    obtain rfl : v = false := hv
    go_enter Try.func50, Try.ntmps50
    go_wp2_with fail
    refine (K1.out _).mono ?_
    rintro e w1 ⟨rfl, rfl⟩
    go_wp2_with fail
    go_ret
    exact ⟨rfl, HB.out⟩
  | true =>
    cases y with
    | false =>
      obtain rfl : v = false := hv
      go_enter Try.func50, Try.ntmps50
      go_wp2_with fail
      refine (K1.out _).mono ?_
      rintro e w1 ⟨rfl, rfl⟩
      go_wp2_with fail
      refine (K2.out _).mono ?_
      rintro e w1 ⟨rfl, rfl⟩
      go_wp2_with fail
      go_ret
      exact ⟨rfl, HB.out⟩
    | true =>
      obtain rfl : v = z := by rw [hv]; cases z <;> rfl
      clear hv
      cases v
      all_goals
        go_enter Try.func50, Try.ntmps50
        go_wp2_with fail
        refine (K1.out _).mono ?_
        rintro e w1 ⟨rfl, rfl⟩
        go_wp2_with fail
        refine (K2.out _).mono ?_
        rintro e w1 ⟨rfl, rfl⟩
        go_wp2_with fail
        refine (K3.out _).mono ?_
        rintro e w1 ⟨rfl, rfl⟩
        go_wp2_with fail
        go_ret
        exact ⟨rfl, HB.out⟩

theorem may_split (a b c d : Int) : maySet a b c d = (mayB a b c && (decide (4096 ≤ d) && decide (d ≤ 4294967295))) := by
  unfold maySet mayB inB
  rw [Bool.eq_iff_iff]
  simp
  constructor
  · rintro ⟨h1, h2, h3, h4, h5, h6, h7, h8⟩; exact ⟨⟨⟨h1, h2⟩, ⟨h3, h4⟩, h5, h6⟩, h7, h8⟩
  · rintro ⟨⟨⟨h1, h2⟩, ⟨h3, h4⟩, h5, h6⟩, h7, h8⟩; exact ⟨h1, h2, h3, h4, h5, h6, h7, h8⟩

set_option maxRecDepth 100000 in
set_option maxHeartbeats 4000000 in
theorem pmay_any (a b c d : Int) (w : World) : Calls Try.prog 17 #[.agg #[.int .i64 a, .int .i64 b, .int .i64 c, .int .i64 d]] w fun e w' => e = .returned (.bool (maySet a b c d)) ∧ Below w.heap.size w w' := by
  obtain ⟨w1, hw1⟩ : ∃ w1, w1 = w.alloc (.cells #[.int .i64 a, .int .i64 b, .int .i64 c, .int .i64 d] 24) := ⟨_, rfl⟩
  have hb1 : Below w.heap.size w w1 := by rw [hw1]; exact (Below.refl _ _).alloc (Nat.le_refl _) _
  have HBk : Blk w1 w.heap.size 24 #[.int .i64 a, .int .i64 b, .int .i64 c, .int .i64 d] := by rw [hw1]; exact Blk.fresh w _ _
  have K := Lib.hid (pbits_any a b c d w1)
  have c0 : w1.cell? ⟨w.heap.size, 0, none⟩ = some (.int .i64 a) := HBk.cell 0
  have c1 : w1.cell? ⟨w.heap.size, 1, none⟩ = some (.int .i64 b) := HBk.cell 1
  have c2 : w1.cell? ⟨w.heap.size, 2, none⟩ = some (.int .i64 c) := HBk.cell 2
  have c3 : w1.cell? ⟨w.heap.size, 3, none⟩ = some (.int .i64 d) := HBk.cell 3
  have HW1 := Lib.hid hw1
  have HB1 := Lib.hid hb1
  have HBK := Lib.hid HBk
  have hs := may_split a b c d
  obtain ⟨v, hv⟩ : ∃ v, v = maySet a b c d := ⟨_, rfl⟩
  rw [← hv] at hs ⊢
  obtain ⟨x, hx⟩ : ∃ x, x = mayB a b c := ⟨_, rfl⟩
  rw [← hx] at hs K
  clear hw1 hb1 HBk hv hx
  cases x with
  | false =>
    obtain rfl : v = false := hs
    go_enter Try.func17, Try.ntmps17
    go_upto_region 1 with fail
    rw [← HW1.out]
    clear HW1
    go_wp2_with fail
    refine K.out.mono ?_
    rintro e w2 ⟨rfl, hb2⟩
    have HB2 := Lib.hid (HB1.out.trans ⟨hb2.os, hb2.tape, hb2.output, hb2.size, fun i hi => hb2.block i (Nat.lt_of_lt_of_le hi HB1.out.size)⟩)
    clear hb2 K c0 c1 c2 c3 HB1
    go_wp2_with fail
    go_ret
    exact ⟨rfl, HB2.out⟩
  | true =>
    rw [Bool.true_and] at hs
    by_cases h6 : 4096 ≤ d
    · have g6 : d ≥ 4096 := h6
      by_cases h7 : d ≤ 4294967295
      · obtain rfl : v = true := by rw [hs, decide_eq_true h6, decide_eq_true h7]; rfl
        clear hs h6
        go_enter Try.func17, Try.ntmps17
        go_upto_region 1 with fail
        rw [← HW1.out]
        clear HW1
        go_wp2_with fail
        refine K.out.mono ?_
        rintro e w2 ⟨rfl, hb2⟩
        have hk2 : Blk w2 w.heap.size 24 #[.int .i64 a, .int .i64 b, .int .i64 c, .int .i64 d] := HBK.out.below hb2
        have d3 : w2.cell? ⟨w.heap.size, 3, none⟩ = some (.int .i64 d) := hk2.cell 3
        have HB2 := Lib.hid (HB1.out.trans ⟨hb2.os, hb2.tape, hb2.output, hb2.size, fun i hi => hb2.block i (Nat.lt_of_lt_of_le hi HB1.out.size)⟩)
        clear hb2 hk2 K c0 c1 c2 c3 HB1
        go_wp2_with fail
        go_ret
        exact ⟨rfl, HB2.out⟩
      · obtain rfl : v = false := by rw [hs, decide_eq_false h7, Bool.and_false]
        have H7 := Lib.hid h7
        clear hs h6 h7
        go_enter Try.func17, Try.ntmps17
        go_upto_region 1 with fail
        rw [← HW1.out]
        clear HW1
        go_wp2_with fail
        refine K.out.mono ?_
        rintro e w2 ⟨rfl, hb2⟩
        have hk2 : Blk w2 w.heap.size 24 #[.int .i64 a, .int .i64 b, .int .i64 c, .int .i64 d] := HBK.out.below hb2
        have d3 : w2.cell? ⟨w.heap.size, 3, none⟩ = some (.int .i64 d) := hk2.cell 3
        have HB2 := Lib.hid (HB1.out.trans ⟨hb2.os, hb2.tape, hb2.output, hb2.size, fun i hi => hb2.block i (Nat.lt_of_lt_of_le hi HB1.out.size)⟩)
        clear hb2 hk2 K c0 c1 c2 c3 HB1
        go_wp2_with fail
        go_ret
        exact ⟨congrArg (fun b => Ending.returned (.bool b)) (decide_eq_false (by have := H7.out; omega)), HB2.out⟩
    · obtain rfl : v = false := by rw [hs, decide_eq_false h6]; rfl
      have g6 : ¬ d ≥ 4096 := h6
      clear hs h6
      go_enter Try.func17, Try.ntmps17
      go_upto_region 1 with fail
      rw [← HW1.out]
      clear HW1
      go_wp2_with fail
      refine K.out.mono ?_
      rintro e w2 ⟨rfl, hb2⟩
      have hk2 : Blk w2 w.heap.size 24 #[.int .i64 a, .int .i64 b, .int .i64 c, .int .i64 d] := HBK.out.below hb2
      have d3 : w2.cell? ⟨w.heap.size, 3, none⟩ = some (.int .i64 d) := hk2.cell 3
      have HB2 := Lib.hid (HB1.out.trans ⟨hb2.os, hb2.tape, hb2.output, hb2.size, fun i hi => hb2.block i (Nat.lt_of_lt_of_le hi HB1.out.size)⟩)
      clear hb2 hk2 K c0 c1 c2 c3 HB1
      go_wp2_with fail
      go_ret
      exact ⟨rfl, HB2.out⟩

theorem lits_small {k : Nat} (h : k ≤ 12) : 768 * 2 ^ k ≤ 3145728 := Nat.mul_le_mul_left 768 (Nat.le_trans (Nat.pow_le_pow_right (by decide) h) (show 2 ^ 12 ≤ 4096 by decide))
set_option maxRecDepth 100000 in
set_option maxHeartbeats 2000000 in
theorem plits_any {lc lp : Nat} (c d : Int) (h : lc + lp ≤ 12) (w : World) : Calls Try.prog 38 #[.agg #[.int .i64 (lc : Int), .int .i64 (lp : Int), .int .i64 c, .int .i64 d]] w fun e w' => e = .returned (.int .i64 ((768 * 2 ^ (lc + lp) : Nat) : Int)) ∧ Below w.heap.size w w' := by
  have HB := Lib.hid ((Below.refl w.heap.size w).alloc (Nat.le_refl _) (.cells #[.int .i64 (lc : Int), .int .i64 (lp : Int), .int .i64 c, .int .i64 d] 24))
  obtain ⟨k, hk⟩ : ∃ k, k = lc + lp := ⟨_, rfl⟩
  have hs := lits_small h
  rw [← hk] at hs ⊢
  have e1 : IntKind.i64.wrap ((lc : Int) + (lp : Int)) = (k : Int) := by rw [hk, ← Int.natCast_add]; exact IntWalk.i64_in _ (by omega)
  obtain ⟨y, hy⟩ : ∃ y, y = 768 * 2 ^ k := ⟨_, rfl⟩
  rw [← hy] at hs ⊢
  have e2 : IntKind.i64.wrap (768 * 2 ^ k) = (y : Int) := by
    rw [cast_pow2, show (768 : Int) * ((2 ^ k : Nat) : Int) = (y : Int) by rw [hy, Int.natCast_mul]; rfl]
    exact IntWalk.i64_in _ (by omega)
  have e3 : min k 64 = k := by omega
  have e4 : (0 : Int) ≤ (k : Int) := by omega
  have HE := Lib.hid (And.intro h hk)
  have HY := Lib.hid (And.intro hy hs)
  clear h hk hy hs
  go_enter Try.func38, Try.ntmps38
  go_wp2_with fail
  go_ret
  exact ⟨rfl, HB.out⟩
end Go.Proofs.Ytjgdjobhhdhfjaa
