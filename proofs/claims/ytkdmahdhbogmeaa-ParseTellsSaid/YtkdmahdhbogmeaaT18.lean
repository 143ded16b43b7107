/-
  CwNew, PsLong, PsWor, PsFin, PsPlc, PsLen: put together.
-/
import Derived.Test.YtkdmahdhbogmeaaT17
import Derived.Laws.MakeOwn
import Derived.Test.YtkdmahdhbogmeaaT01
import Derived.Test.YtkdmahdhbogmeaaT06
import Derived.Deep.Cut
import Derived.Lib.BitFns
import Derived.Lib.Walk
set_option linter.unusedVariables false
set_option linter.unusedSimpArgs false
/-
  The program's coder of LZMA: a new one.
-/
namespace Go.Proofs.Ytkdmahdhbogmeaa
open Go.RowKit

/-- A coder that begins. -/
def CNewPost (w : World) (lc lp pb dict k : Nat) (e : Ending) (w' : World) : Prop :=
  ∃ K : Koc, e = .returned (.tuple #[.pointer (some ⟨K.g, 0, none⟩), .int .i64 0]) ∧ K.nl = 768 * 2 ^ (lc + lp) ∧
    Cw K w' none none 0 (Lzs.start lc lp pb dict) k ⟨List.replicate (1847 + K.nl) 1024, En.new⟩ ∧ (w.heap.size ≤ K.g ∧ w.heap.size ≤ K.lb ∧ w.heap.size ≤ K.eg) ∧ Only (fun _ => False) w w'

theorem enNew_ok (k : Nat) (hk : k ≤ 1000000) : okE k En.new := ⟨enOk_new, by show 5 + 32 * k ≤ _; omega⟩
theorem new_pm {L k : Nat} (hk : k ≤ 1000000) : PmOk okE L k (⟨List.replicate L 1024, En.new⟩ : Pm En) :=
  ⟨fun p hp => by rw [List.eq_of_mem_replicate hp]; exact ⟨by decide, by decide⟩, by simp, enNew_ok k hk⟩

set_option maxRecDepth 100000 in
set_option maxHeartbeats 16000000 in
theorem cnew7_any {lc lp pb dict k : Nat} (h : SetOk lc lp pb dict) (h6 : lc + lp ≤ 6) (hk : k ≤ 1000000) (w : World) :
    Calls Try.prog 10 #[.agg #[.int .i64 (lc : Int), .int .i64 (lp : Int), .int .i64 (pb : Int), .int .i64 (dict : Int)]] w (CNewPost w lc lp pb dict k) := by
  obtain ⟨w1, hw1⟩ : ∃ w1, w1 = w.alloc (.cells #[.int .i64 (lc : Int), .int .i64 (lp : Int), .int .i64 (pb : Int), .int .i64 (dict : Int)] 40) := ⟨_, rfl⟩
  have HBk : Blk w1 w.heap.size 40 #[.int .i64 (lc : Int), .int .i64 (lp : Int), .int .i64 (pb : Int), .int .i64 (dict : Int)] := by rw [hw1]; exact Blk.fresh w _ _
  have HO1 := Lib.hid (show Only (fun _ => False) w w1 by rw [hw1]; exact (Only.refl _ w).alloc _)
  have KM := pmay_any (lc : Int) (lp : Int) (pb : Int) (dict : Int) w1
  rw [setOk_may h] at KM
  have KM := Lib.hid KM
  have HH := Lib.hid (And.intro h (And.intro h6 hk))
  have HW1 := Lib.hid hw1
  have HBK := Lib.hid HBk
  have KE := Lib.hid (fun w => cnew_any w)
  have o0 : w1.cell? ⟨w.heap.size, 0, none⟩ = some (.int .i64 (lc : Int)) := HBk.cell 0
  have o1 : w1.cell? ⟨w.heap.size, 1, none⟩ = some (.int .i64 (lp : Int)) := HBk.cell 1
  have o2 : w1.cell? ⟨w.heap.size, 2, none⟩ = some (.int .i64 (pb : Int)) := HBk.cell 2
  have o3 : w1.cell? ⟨w.heap.size, 3, none⟩ = some (.int .i64 (dict : Int)) := HBk.cell 3
  clear hw1 HBk h h6 hk
  go_enter Try.func10, Try.ntmps10
  go_upto_region 1 with fail
  rw [← HW1.out]
  clear HW1
  go_wp2_with fail
  refine KM.out.mono ?_
  rintro e w2 ⟨rfl, hb2⟩
  have ho2 : Only (fun _ => False) w1 w2 := Only.of_below hb2
  have HO2 := Lib.hid (HO1.out.trans ho2)
  have HBK2 := Lib.hid (HBK.out.only ho2 (fun h => h))
  clear hb2 ho2 KM o0 o1 o2 o3 HBK HO1
  have HS := Lib.hid (fun (W : World) (hW : Only (fun _ => False) w2 W) => (show W.cell? ⟨w.heap.size, 0, none⟩ = some (.int .i64 (lc : Int)) ∧ W.cell? ⟨w.heap.size, 1, none⟩ = some (.int .i64 (lp : Int)) ∧ W.cell? ⟨w.heap.size, 2, none⟩ = some (.int .i64 (pb : Int)) ∧ W.cell? ⟨w.heap.size, 3, none⟩ = some (.int .i64 (dict : Int)) from
    have hk := HBK2.out.only hW (fun h => h)
    ⟨hk.cell 0, hk.cell 1, hk.cell 2, hk.cell 3⟩))
  obtain ⟨o0, o1, o2, o3⟩ := HS.out w2 (Only.refl _ _)
  go_wp2_with fail
  go_region_held3 (fun W => W.cell? ⟨w.heap.size, 0, none⟩ = some (.int .i64 (lc : Int)) ∧ W.cell? ⟨w.heap.size, 1, none⟩ = some (.int .i64 (lp : Int)) ∧ W.cell? ⟨w.heap.size, 2, none⟩ = some (.int .i64 (pb : Int)) ∧ W.cell? ⟨w.heap.size, 3, none⟩ = some (.int .i64 (dict : Int)))
    (first | assumption | go_keep | exact ⟨o0, o1, o2, o3⟩ | exact HS.out _ HQ3.out)
    (first | (go_at_call 18; refine (KE.out _).mono ?_; rintro e w3 ⟨rfl, hw3⟩; have HW3 := Lib.hid hw3; have HQ3 := Lib.hid (show Only (fun _ => False) w2 w3 from by rw [hw3]; exact ((Only.refl _ w2).drew).alloc _); clear hw3))
  obtain ⟨cs, hcs⟩ : ∃ cs, cs = (((((Try.zeroCells76.setIfInBounds 0 (.int .i64 (lc : Int))).setIfInBounds 1 (.int .i64 (lp : Int))).setIfInBounds 2 (.int .i64 (pb : Int))).setIfInBounds 3 (.int .i64 (dict : Int))).setIfInBounds 4 (.pointer (some ⟨w2.heap.size, 0, none⟩))) := ⟨_, rfl⟩
  rw [← hcs]
  have hblk : Blk (w3.alloc (.cells cs 76)) w3.heap.size 76 cs := Blk.fresh w3 _ _
  rw [hcs, czero_link] at hblk
  rw [← czero_link] at hblk
  have hblk2 := hblk
  rw [czero_link] at hblk2
  have hat : LcAt (w3.alloc (.cells cs 76)) w3.heap.size (coFs (lc : Int) (lp : Int) (pb : Int) (dict : Int) w2.heap.size (.slice none 0 0)) (List.replicate 1847 0) := by
    have := made_co hblk2
    rw [← czero_link, ← hcs] at this
    exact this
  have ho4 : Only (fun _ => False) w3 (w3.alloc (.cells cs 76)) := (Only.refl _ w3).alloc _
  have hpn : Pn w3 w2.heap.size none En.new := by rw [HW3.out]; exact pn_fresh w2.drew
  have HPN := Lib.hid (hpn.only ho4 (fun h => h) (fun _ _ h => h))
  have HS4 := Lib.hid (HS.out _ (HQ3.out.trans ho4))
  have HO4 := Lib.hid ((HO2.out.trans HQ3.out).trans ho4)
  have hs23 : w2.heap.size < w3.heap.size := by rw [HW3.out]; simp
  have HSZ := Lib.hid (And.intro HO2.out.size (And.intro hs23 (show w3.heap.size < (w3.alloc (.cells cs 76)).heap.size from hat.lt)))
  have KR := Lib.hid (creset_any HH.out.1 HH.out.2.1 (⟨hat, by simp⟩ : Lr w3.heap.size _ _ (List.replicate 1847 0)))
  clear hblk hblk2 hat ho4 hpn hs23 hcs HQ3 HO2 HW3 HS HBK2
  generalize w3.alloc (.cells cs 76) = w4 at *
  obtain ⟨o0, o1, o2, o3⟩ := HS4.out
  go_wp2_with fail
  refine KR.out.mono ?_
  rintro e w5 ⟨rfl, lb, hr5, hrow5, hlb, ho5⟩
  obtain ⟨z1, z2, z3⟩ := HSZ.out
  have hst := HH.out.1
  obtain ⟨nl, hnl⟩ : ∃ nl, nl = 768 * 2 ^ (lc + lp) := ⟨_, rfl⟩
  rw [← hnl] at hr5 hrow5
  have hpn5 := HPN.out.only ho5 (fun e => by omega) (fun _ h => by cases h)
  have hrep : ∀ a, a < 1847 → (List.replicate (1847 + nl) 1024).getD a 0 = (List.replicate 1847 1024).getD a 0 := fun a ha => by
    unfold List.getD
    rw [List.getElem?_replicate, List.getElem?_replicate, if_pos ha, if_pos (by omega)]
  have hcw : Cw ⟨w3.heap.size, lb, nl, w2.heap.size⟩ w5 none none 0 (Lzs.start lc lp pb dict) k ⟨List.replicate (1847 + nl) 1024, En.new⟩ := by
    refine ⟨⟨hpn5, ⟨hr5.1.same hrep, ?_, by simp⟩, new_pm HH.out.2.2⟩, ⟨rfl, .inl ⟨rfl, rfl⟩⟩, ⟨?_, ?_, ?_, fun _ h => (by cases h), fun _ h => (by cases h)⟩⟩
    · show Row w5 lb ((List.replicate (1847 + nl) 1024).drop 1847) nl
      rw [List.drop_replicate, Nat.add_sub_cancel_left]
      exact hrow5
    · show w3.heap.size ≠ lb
      omega
    · show w3.heap.size ≠ w2.heap.size
      omega
    · show lb ≠ w2.heap.size
      omega
  have HCW := Lib.hid hcw
  have HNL := Lib.hid hnl
  have HLE := Lib.hid (show w.heap.size ≤ w3.heap.size ∧ w.heap.size ≤ lb ∧ w.heap.size ≤ w2.heap.size by omega)
  have HON := Lib.hid (show Only (fun _ => False) w w5 from HO4.out.trans' ho5 (fun i hi => .inr (by subst hi; omega)))
  clear hr5 hrow5 hlb ho5 z1 z2 z3 hst hpn5 hrep hcw hnl KR o0 o1 o2 o3 HS4 HPN HO4 HSZ
  go_wp2_with fail
  go_ret2
  exact ⟨⟨w3.heap.size, lb, nl, w2.heap.size⟩, rfl, HNL.out, HCW.out, HLE.out, HON.out⟩
end Go.Proofs.Ytkdmahdhbogmeaa

/-
  The reference's copy at a distance.
-/
namespace Go.Proofs.Ytkdmahdhbogmeaa
open Go.RowKit

theorem u8_ne {x y : UInt8} (h : ¬ x = y) : ((x.toNat : Int) == (y.toNat : Int)) = false := by
  have : x.toNat ≠ y.toNat := fun e => h (UInt8.toNat_inj.1 e)
  simp; omega
/-- a loop that counts bytes that are the same -/
structure SameTo (b : List UInt8) (o i j : Nat) : Prop where
  same : ∀ k, k < j → b.getD (i + k) 0 = b.getD (i + k - o) 0
theorem SameTo.zero (b : List UInt8) (o i : Nat) : SameTo b o i 0 := ⟨fun k hk => absurd hk (Nat.not_lt_zero k)⟩
theorem SameTo.succ {b : List UInt8} {o i j : Nat} (h : SameTo b o i j) (he : b.getD (i + j) 0 = b.getD (i + j - o) 0) : SameTo b o i (j + 1) :=
  ⟨fun k hk => by
    by_cases hkj : k = j
    · subst hkj
      exact he
    · exact h.same k (by omega)⟩
theorem SameTo.full {b : List UInt8} {o i j f : Nat} (h : SameTo b o i j) (hj : j = f) : eqN b o f i = j := eqN_is (by omega) h.same (fun h => absurd h (by omega))
theorem SameTo.stop {b : List UInt8} {o i j f : Nat} (h : SameTo b o i j) (hj : j < f) (hs : ¬ b.getD (i + j) 0 = b.getD (i + j - o) 0) : eqN b o f i = j := eqN_is (by omega) h.same (fun _ => hs)

end Go.Proofs.Ytkdmahdhbogmeaa

/-
  Lists of places, as numbers: the last place of a list, and the longest copy that is found by them.
-/
namespace Go.Proofs.Ytkdmahdhbogmeaa
open Go.RowKit

theorem pi64_or (a b : Nat) (ha : a < 9223372036854775808) (hb : b < 9223372036854775808) : bits .or .i64 (a : Int) (b : Int) = ((a ||| b : Nat) : Int) := by
  have hx : a ||| b < 2 ^ 63 := Nat.or_lt_two_pow (by omega) (by omega)
  show IntKind.i64.wrap ((BitVec.ofInt 64 (a : Int) ||| BitVec.ofInt 64 (b : Int)).toNat : Int) = _
  rw [BitVec.toNat_or, ofInt_u64 a (by omega), ofInt_u64 b (by omega), IntKind.wrap_i64]
  omega
theorem pi64_and (a b : Nat) (ha : a < 9223372036854775808) (hb : b < 9223372036854775808) : bits .and .i64 (a : Int) (b : Int) = ((a &&& b : Nat) : Int) := by
  have hx : a &&& b < 2 ^ 63 := Nat.and_lt_two_pow _ (by omega)
  show IntKind.i64.wrap ((BitVec.ofInt 64 (a : Int) &&& BitVec.ofInt 64 (b : Int)).toNat : Int) = _
  rw [BitVec.toNat_and, ofInt_u64 a (by omega), ofInt_u64 b (by omega), IntKind.wrap_i64]
  omega
/-- two bytes -/
def twoP (b : List UInt8) (p : Nat) : Nat := (b.getD p 0).toNat * 256 ||| (b.getD (p + 1) 0).toNat
theorem twoP_lt (b : List UInt8) (p : Nat) : twoP b p < 65536 := by
  have h1 := (b.getD p 0).toNat_lt
  have h2 := (b.getD (p + 1) 0).toNat_lt
  exact Nat.or_lt_two_pow (n := 16) (by omega) (by omega)
/-- which list -/
def hashP (b : List UInt8) (sz p : Nat) : Nat := twoP b p &&& (sz - 1)
theorem hash_lt {b : List UInt8} {sz p : Nat} (h : 1 ≤ sz) : hashP b sz p < sz := by
  have : hashP b sz p ≤ sz - 1 := Nat.and_le_right
  omega
theorem hash_same {b : List UInt8} {sz p q : Nat} (h0 : b.getD p 0 = b.getD q 0) (h1 : b.getD (p + 1) 0 = b.getD (q + 1) 0) : hashP b sz p = hashP b sz q := by
  unfold hashP twoP
  rw [h0, h1]
/-- the last place below n of a list, and 1; 0 if there is none -/
def lastN (h : Nat → Nat) (v : Nat) : Nat → Nat
  | 0 => 0
  | p + 1 => if h p = v then p + 1 else lastN h v p
theorem lastN_le (h : Nat → Nat) (v : Nat) : ∀ n, lastN h v n ≤ n
  | 0 => Nat.le_refl _
  | p + 1 => by
    have := lastN_le h v p
    unfold lastN
    split <;> omega
theorem lastN_none {h : Nat → Nat} {v : Nat} : ∀ {n}, lastN h v n = 0 → ∀ p, p < n → h p ≠ v
  | 0, _, p, hp => absurd hp (Nat.not_lt_zero p)
  | n + 1, h0, p, hp => by
    unfold lastN at h0
    split at h0
    · omega
    · rename_i hn
      by_cases e : p = n
      · subst e; exact hn
      · exact lastN_none h0 p (by omega)
theorem lastN_some {h : Nat → Nat} {v q : Nat} : ∀ {n}, lastN h v n = q + 1 → q < n ∧ h q = v ∧ ∀ p, q < p → p < n → h p ≠ v
  | 0, h0 => by unfold lastN at h0; omega
  | n + 1, h0 => by
    unfold lastN at h0
    split at h0
    · rename_i hn
      obtain rfl : q = n := by omega
      exact ⟨by omega, hn, fun p h1 h2 => by omega⟩
    · rename_i hn
      obtain ⟨h1, h2, h3⟩ := lastN_some h0
      exact ⟨by omega, h2, fun p h4 h5 => by
        by_cases e : p = n
        · subst e; exact hn
        · exact h3 p h4 (by omega)⟩

/-- the longest copy of the first n distances, if it is worth it -/
def wor (g : Nat → Nat) (l0 n : Nat) : Nat × Nat := if l0 ≤ (best g n).2 then best g n else (0, 0)
def leastOf (l0 : Nat) (x : Nat × Nat) : Nat := if x.2 = 0 then l0 else x.2 + 1
theorem wor_zero (g : Nat → Nat) (l0 : Nat) : wor g l0 0 = (0, 0) := by
  unfold wor
  show (if l0 ≤ 0 then ((0, 0) : Nat × Nat) else (0, 0)) = (0, 0)
  split <;> rfl
theorem wor_skip {g : Nat → Nat} {l0 n : Nat} (h1 : 1 ≤ l0) (h : g n < leastOf l0 (wor g l0 n)) : wor g l0 (n + 1) = wor g l0 n := by
  unfold leastOf wor at h
  by_cases hb : l0 ≤ (best g n).2
  · rw [if_pos hb, if_neg (by omega)] at h
    have e : best g (n + 1) = best g n := if_neg (by omega)
    unfold wor
    rw [e]
  · rw [if_neg hb, if_pos rfl] at h
    unfold wor
    rw [if_neg hb]
    have e : (best g (n + 1)).2 < l0 := by
      show (if (best g n).2 < g n then (n, g n) else best g n).2 < l0
      split
      · exact h
      · omega
    rw [if_neg (by omega)]
theorem wor_take {g : Nat → Nat} {l0 n : Nat} (h1 : 1 ≤ l0) (h : leastOf l0 (wor g l0 n) ≤ g n) : wor g l0 (n + 1) = (n, g n) := by
  have hlt : (best g n).2 < g n ∧ l0 ≤ g n := by
    unfold leastOf wor at h
    by_cases hb : l0 ≤ (best g n).2
    · rw [if_pos hb, if_neg (by omega)] at h
      omega
    · rw [if_neg hb, if_pos rfl] at h
      omega
  have e : best g (n + 1) = (n, g n) := if_pos hlt.1
  unfold wor
  rw [e, if_pos hlt.2]
theorem wor_skips {g : Nat → Nat} {l0 n : Nat} (h1 : 1 ≤ l0) : ∀ k, (∀ d, n ≤ d → d < n + k → g d < leastOf l0 (wor g l0 n)) → wor g l0 (n + k) = wor g l0 n
  | 0, _ => rfl
  | k + 1, h => by
    have ih := wor_skips h1 k (fun d h2 h3 => h d h2 (by omega))
    have := wor_skip (g := g) (l0 := l0) (n := n + k) h1 (by rw [ih]; exact h (n + k) (by omega) (by omega))
    rw [show n + (k + 1) = n + k + 1 by omega, this, ih]
theorem wor_to {g : Nat → Nat} {l0 n N : Nat} (h1 : 1 ≤ l0) (hn : n ≤ N) (h : ∀ d, n ≤ d → d < N → g d < leastOf l0 (wor g l0 n)) : wor g l0 N = wor g l0 n := by
  have := wor_skips (g := g) (l0 := l0) (n := n) h1 (N - n) (fun d h2 h3 => h d h2 (by omega))
  rwa [show n + (N - n) = N by omega] at this
theorem least_ge {l0 : Nat} {x : Nat × Nat} (h : 2 ≤ l0) (hx : x.2 = 0 ∨ l0 ≤ x.2) : 2 ≤ leastOf l0 x := by
  unfold leastOf
  split <;> omega
theorem wor_or (g : Nat → Nat) (l0 n : Nat) : wor g l0 n = (0, 0) ∨ (l0 ≤ (wor g l0 n).2) := by
  unfold wor
  split
  · rename_i h; exact .inr h
  · exact .inl rfl
/-- bytes that begin otherwise are no copy -/
theorem cp_short {b : List UInt8} {dict e i d : Nat} (h2 : 2 ≤ cpN b dict e i d) : d < i ∧ d < dict ∧ b.getD i 0 = b.getD (i - 1 - d) 0 ∧ b.getD (i + 1) 0 = b.getD (i - 1 - d + 1) 0 := by
  unfold cpN at h2
  split at h2
  · rename_i h
    have h0 := eqN_same b (d + 1) (min 273 (e - i)) i 0 (by omega)
    have h1 := eqN_same b (d + 1) (min 273 (e - i)) i 1 (by omega)
    rw [show i + 0 = i by omega] at h0
    refine ⟨h.1, h.2, ?_, ?_⟩
    · rw [h0]; exact congrArg (fun k => b.getD k 0) (show i - (d + 1) = i - 1 - d by omega)
    · rw [h1]; exact congrArg (fun k => b.getD k 0) (show i + 1 - (d + 1) = i - 1 - d + 1 by omega)
  · omega
/-- a copy of so many bytes has the last of them -/
theorem cp_last {b : List UInt8} {dict e i d l : Nat} (h1 : 1 ≤ l) (h : l ≤ cpN b dict e i d) : b.getD (i + l - 1) 0 = b.getD (i - 1 - d + l - 1) 0 := by
  unfold cpN at h
  split at h
  · rename_i hd
    have h0 := eqN_same b (d + 1) (min 273 (e - i)) i (l - 1) (by omega)
    rw [show i + (l - 1) = i + l - 1 by omega] at h0
    rw [h0]; exact congrArg (fun k => b.getD k 0) (show i + l - 1 - (d + 1) = i - 1 - d + l - 1 by omega)
  · omega
end Go.Proofs.Ytkdmahdhbogmeaa

/-
  The program's finder: what it reads: how many bytes a copy may have, a copy, the elder distances' longest one.
-/
namespace Go.Proofs.Ytkdmahdhbogmeaa
open Go.RowKit

theorem min2_int {P : Program} (ts : Array TypeId) (t : TypeId) (x y k : Int) (hk : k = min x y) : ∀ w, (Builtin.min_ ts t #[.int .i64 x, .int .i64 y]).run P w = .ok (.int .i64 k) w := by
  intro w
  subst hk
  by_cases h : x ≤ y
  · rw [Int.min_eq_left h]
    simp [Builtin.min_, Builtin.min2]; omega
  · rw [Int.min_eq_right (by omega)]
    simp [Builtin.min_, Builtin.min2]; omega
theorem max2_int {P : Program} (ts : Array TypeId) (t : TypeId) (x y k : Int) (hk : k = max x y) : ∀ w, (Builtin.max_ ts t #[.int .i64 x, .int .i64 y]).run P w = .ok (.int .i64 k) w := by
  intro w
  subst hk
  by_cases h : x ≤ y
  · rw [Int.max_eq_right h]
    simp [Builtin.max_, Builtin.max2]; omega
  · rw [Int.max_eq_left (by omega)]
    simp [Builtin.max_, Builtin.max2]; omega
/-- the finder's cells -/
def fCells (A : Option Addr) (n c dict : Nat) (s : Ps) (lv av : Value) : Array Value :=
  #[.slice A n c, .int .i64 (s.i : Int), .int .i64 (dict : Int), .int .u32 (s.r0 : Int), .int .u32 (s.r1 : Int), .int .u32 (s.r2 : Int), .int .u32 (s.r3 : Int), .slice A n c, lv, av]
/-- the finder as it is read -/
structure Fq (w : World) (g : Nat) (A : Option Addr) (n c dict : Nat) (b : List UInt8) (s : Ps) (lv av : Value) : Prop where
  f : Blk w g 54 (fCells A n c dict s lv av)
  sl : Sl w A n (bv b)
  n1 : n ≤ 1000000000
  i1 : s.i ≤ n
  d1 : 1 ≤ dict
  d2 : dict ≤ 9223372036854775807
  lit : s.Lit
section
variable {w : World} {g : Nat} {A : Option Addr} {n c dict : Nat} {b : List UInt8} {s : Ps} {lv av : Value}
theorem Fq.drewN (h : Fq w g A n c dict b s lv av) (k : Nat) : Fq (w.drewN k) g A n c dict b s lv av := ⟨h.f.drewN k, h.sl.drewN k, h.n1, h.i1, h.d1, h.d2, h.lit⟩
theorem Fq.c0 (h : Fq w g A n c dict b s lv av) : w.cell? ⟨g, 0, none⟩ = some (.slice A n c) := h.f.cell 0
theorem Fq.c1 (h : Fq w g A n c dict b s lv av) : w.cell? ⟨g, 1, none⟩ = some (.int .i64 (s.i : Int)) := h.f.cell 1
theorem Fq.c2 (h : Fq w g A n c dict b s lv av) : w.cell? ⟨g, 2, none⟩ = some (.int .i64 (dict : Int)) := h.f.cell 2
theorem Fq.c3 (h : Fq w g A n c dict b s lv av) : w.cell? ⟨g, 3, none⟩ = some (.int .u32 (s.r0 : Int)) := h.f.cell 3
theorem Fq.c4 (h : Fq w g A n c dict b s lv av) : w.cell? ⟨g, 4, none⟩ = some (.int .u32 (s.r1 : Int)) := h.f.cell 4
theorem Fq.c5 (h : Fq w g A n c dict b s lv av) : w.cell? ⟨g, 5, none⟩ = some (.int .u32 (s.r2 : Int)) := h.f.cell 5
theorem Fq.c6 (h : Fq w g A n c dict b s lv av) : w.cell? ⟨g, 6, none⟩ = some (.int .u32 (s.r3 : Int)) := h.f.cell 6
theorem Fq.len (h : Fq w g A n c dict b s lv av) : b.length = n := by rw [← bv_length]; exact h.sl.1

set_option maxRecDepth 100000 in
set_option maxHeartbeats 2000000 in
theorem pmost_any (h : Fq w g A n c dict b s lv av) :
    Calls Try.prog 53 #[.pointer (some ⟨g, 0, none⟩)] w fun x w' => x = .returned (.int .i64 ((min 273 (n - s.i) : Nat) : Int)) ∧ ∃ k, w.drewN k = w' := by
  have c0 := h.c0
  have c1 := h.c1
  have e1 : IntKind.i64.wrap ((n : Int) - (s.i : Int)) = (n : Int) - (s.i : Int) := IntWalk.i64_in _ (by have := h.n1; have := h.i1; omega)
  obtain ⟨r, hr⟩ : ∃ r, r = (min 273 (n - s.i) : Nat) := ⟨_, rfl⟩
  have hm := min2_int (P := Try.prog) #[3, 3] 3 ((n : Int) - (s.i : Int)) 273 (r : Int) (by have := h.i1; omega)
  rw [← hr]
  clear hr
  generalize s.i = i at *
  clear h
  go_enter Try.func53, Try.ntmps53
  go_wp2_with fail
  go_quiet (fail)
  go_wp2_with fail
  go_ret
  exact ⟨rfl, nq, rfl⟩

set_option maxRecDepth 100000 in
set_option maxHeartbeats 4000000 in
theorem pcopied_any {d : Nat} (h : Fq w g A n c dict b s lv av) (hd : d < 4294967296) :
    Calls Try.prog 32 #[.pointer (some ⟨g, 0, none⟩), .int .i64 (d : Int)] w fun x w' => x = .returned (.int .i64 ((cpN b dict n s.i d : Nat) : Int)) ∧ ∃ k, w.drewN k = w' := by
  have c0 := h.c0
  have c1 := h.c1
  have c2 := h.c2
  have HQ := Lib.hid h
  obtain ⟨i, hi⟩ : ∃ i, i = s.i := ⟨_, rfl⟩
  have HI := Lib.hid hi
  rw [← hi] at c1 ⊢
  by_cases h1 : d < i ∧ d < dict
  · obtain ⟨f, hf⟩ : ∃ f, f = min 273 (n - i) := ⟨_, rfl⟩
    have hr : cpN b dict n i d = eqN b (d + 1) f i := by unfold cpN; rw [if_pos h1, hf]
    rw [hr]
    obtain ⟨r, hrr⟩ : ∃ r, r = eqN b (d + 1) f i := ⟨_, rfl⟩
    rw [← hrr]
    have KM := Lib.hid (fun k => pmost_any (h.drewN k))
    rw [← hi, ← hf] at KM
    have HH := Lib.hid (show n ≤ 1000000000 ∧ i ≤ n ∧ d < i ∧ f = min 273 (n - i) from ⟨h.n1, by rw [hi]; exact h.i1, h1.1, hf⟩)
    have HR := Lib.hid hrr
    obtain ⟨u, hu⟩ : ∃ u, u = min i dict := ⟨_, rfl⟩
    have hm := min2_int (P := Try.prog) #[3, 3] 3 (i : Int) (dict : Int) (u : Int) (by omega)
    have g1 : ¬ (u : Int) ≤ (d : Int) := by omega
    have g2 : decide (u ≤ d) = false := decide_eq_false (by omega)
    have g3 : decide ((u : Int) ≤ (d : Int)) = false := decide_eq_false g1
    clear h hd hr hrr h1 hf hi hu
    go_enter Try.func32, Try.ntmps32
    go_wp2_with fail
    go_quiet (fail)
    clear c2 g1 g2 g3 hm
    go_wp2_with fail
    refine (KM.out nq).mono ?_
    rintro e w1 ⟨rfl, k1, rfl⟩
    clear KM
    go_wp2_with fail
    go_loopw [5] (fun v wr => ∃ j k : Nat, j ≤ f ∧ v = .int .i64 (j : Int) ∧ SameTo b (d + 1) i j ∧ wr = w.drewN k) (fun v _ => f - (intOf v).toNat)
    case atStart => exact ⟨0, nq + k1, Nat.zero_le _, rfl, SameTo.zero _ _ _, by first | rfl | exact World.drewN_drewN.symm | simp⟩
    case round =>
      obtain ⟨j, k, hj, rfl, hsm, rfl⟩ := hrel
      obtain ⟨hn, hi, hdi, hf⟩ := HH.out
      by_cases hlt : j < f
      · have i3 : (j : Int) < (f : Int) := by omega
        obtain ⟨ba, oa, rfl, hba, hca⟩ := HQ.out.sl.2 (by omega)
        have hbl := HQ.out.len
        obtain ⟨q, hq⟩ : ∃ q, q = i + j - (d + 1) := ⟨_, rfl⟩
        have k1' : w.cell? ⟨ba, oa + (i + j), none⟩ = some (.int .u8 ((b.getD (i + j) 0).toNat : Int)) := by rw [hca (i + j) (by omega), bv_get b _ (by omega)]
        have k2' : w.cell? ⟨ba, oa + q, none⟩ = some (.int .u8 ((b.getD q 0).toNat : Int)) := by rw [hca q (by omega), bv_get b _ (by omega)]
        have e1 : IntKind.i64.wrap ((i : Int) + (j : Int)) = ((i + j : Nat) : Int) := by rw [IntWalk.i64_in _ (by omega)]; omega
        have e2 : IntKind.i64.wrap (((i + j : Nat) : Int) - 1) = ((i + j : Nat) : Int) - 1 := IntWalk.i64_in _ (by omega)
        have e3 : IntKind.i64.wrap (((i + j : Nat) : Int) - 1 - (d : Int)) = (q : Int) := by rw [IntWalk.i64_in _ (by omega)]; omega
        have b1 : (0 : Int) ≤ ((i + j : Nat) : Int) := by omega
        have b2 : ((i + j : Nat) : Int) < (n : Int) := by omega
        have b3 : (0 : Int) ≤ (q : Int) := by omega
        have b4 : (q : Int) < (n : Int) := by omega
        have HLT := Lib.hid (show j < f ∧ q = i + j - (d + 1) from ⟨hlt, hq⟩)
        by_cases hxy : b.getD (i + j) 0 = b.getD q 0
        · have hnext := hsm.succ (by rw [← hq]; exact hxy)
          have HNX := Lib.hid hnext
          rw [← hxy] at k2'
          have e4 : IntKind.i64.wrap ((j : Int) + 1) = (j : Int) + 1 := IntWalk.i64_in _ (by omega)
          generalize b.getD (i + j) 0 = x at *
          generalize i + j = p at *
          clear hca hxy hnext hsm hj hn hi hdi hf hlt hq hbl
          go_wp2_with fail
          go_quiet (fail)
          go_wp2_with fail
          go_roundw
          case rel => exact ⟨j + 1, k + nq, by have := HLT.out; omega, by go_num, HNX.out, rfl⟩
          case measure => have := HLT.out; simp [intOf]; omega
        · have hst := hsm.stop hlt (by rw [← hq]; exact hxy)
          have hres : r = j := HR.out.trans hst
          have hne := u8_ne hxy
          generalize b.getD (i + j) 0 = x at *
          generalize b.getD q 0 = y at *
          generalize i + j = p at *
          have HRES := Lib.hid hres
          clear hca hxy hst hsm hj hn hi hdi hf hlt hq hres hbl
          go_wp2_with fail
          go_quiet (fail)
          go_wp2_with fail
          go_ret
          exact ⟨ret_int (by rw [HRES.out]), k + nq, by first | rfl | exact World.drewN_drewN.symm | simp⟩
      · have i3 : ¬ (j : Int) < (f : Int) := by omega
        have i4 : decide (j < f) = false := decide_eq_false hlt
        have i5 : decide ((j : Int) < (f : Int)) = false := decide_eq_false i3
        have hres : r = j := HR.out.trans (hsm.full (by omega))
        have HRES := Lib.hid hres
        clear hsm hj hn hi hdi hf hlt hres
        go_wp2_with fail
        go_quiet (fail)
        go_wp2_with fail
        go_ret
        exact ⟨ret_int (by rw [HRES.out]), k + nq, by first | rfl | exact World.drewN_drewN.symm | simp⟩
  · have hr : cpN b dict n i d = 0 := by unfold cpN; rw [if_neg h1]
    rw [hr]
    obtain ⟨u, hu⟩ : ∃ u, u = min i dict := ⟨_, rfl⟩
    have hm := min2_int (P := Try.prog) #[3, 3] 3 (i : Int) (dict : Int) (u : Int) (by omega)
    have g1 : (u : Int) ≤ (d : Int) := by omega
    have g2 : decide (u ≤ d) = true := decide_eq_true (by omega)
    have g3 : decide ((u : Int) ≤ (d : Int)) = true := decide_eq_true g1
    clear h hd h1 hr hi hu
    go_enter Try.func32, Try.ntmps32
    go_wp2_with fail
    go_quiet (fail)
    go_wp2_with fail
    go_ret
    exact ⟨rfl, nq, rfl⟩
end
end Go.Proofs.Ytkdmahdhbogmeaa

/-
  The program's lists of places: what they are in memory; a list, its last place, the one ahead of a place.
-/
namespace Go.Proofs.Ytkdmahdhbogmeaa
open Go.RowKit

/-- what is kept by each place -/
def prevs (b : List UInt8) (sz n : Nat) : List Value := (List.range n).map fun p => Value.int .u32 ((lastN (hashP b sz) (hashP b sz p) p : Nat) : Int)
theorem prevs_succ (b : List UInt8) (sz n : Nat) : prevs b sz (n + 1) = prevs b sz n ++ [.int .u32 ((lastN (hashP b sz) (hashP b sz n) n : Nat) : Int)] := by simp [prevs, List.range_succ]
theorem prevs_get (b : List UInt8) (sz n p : Nat) (h : p < n) : (prevs b sz n)[p]? = some (.int .u32 ((lastN (hashP b sz) (hashP b sz p) p : Nat) : Int)) := by simp [prevs, h]
/-- the lists, with the places below cnt -/
structure Md (w : World) (b : List UInt8) (cnt sz ql qa ca : Nat) (cs : Array Value) : Prop where
  lb : Blk w ql 23 cs
  lz : cs.size = sz
  lv : ∀ v, v < sz → cs[v]? = some (.int .u32 ((lastN (hashP b sz) v cnt : Nat) : Int))
  ar : w.ownsRow 0 23 1 (.slice (some ⟨qa, 0, none⟩) cnt ca) cnt (prevs b sz cnt)
  s1 : 1 ≤ sz
  s2 : sz ≤ 65536
  ne : ql ≠ qa
section
variable {w : World} {b : List UInt8} {cnt sz ql qa ca : Nat} {cs : Array Value}
theorem Md.drewN (h : Md w b cnt sz ql qa ca cs) (k : Nat) : Md (w.drewN k) b cnt sz ql qa ca cs := ⟨h.lb, h.lz, h.lv, h.ar, h.s1, h.s2, h.ne⟩
theorem Md.lcell (h : Md w b cnt sz ql qa ca cs) {v : Nat} (hv : v < sz) : w.cell? ⟨ql, v, none⟩ = some (.int .u32 ((lastN (hashP b sz) v cnt : Nat) : Int)) := (h.lb.cell v).trans (h.lv v hv)
theorem Md.acell (h : Md w b cnt sz ql qa ca cs) {p : Nat} (hp : p < cnt) : w.cell? ⟨qa, p, none⟩ = some (.int .u32 ((lastN (hashP b sz) (hashP b sz p) p : Nat) : Int)) := by
  obtain ⟨_, h2⟩ := (own_facts h.ar).1
  obtain ⟨b', o', e, _, hc⟩ := h2 (by omega)
  injection e with e
  injection e with e1 e2
  subst e1 e2
  have := hc p hp
  rw [Nat.zero_add] at this
  rw [this]
  exact prevs_get b sz cnt p hp
end

section
variable {w : World} {g : Nat} {A : Option Addr} {n c : Nat} {b : List UInt8} {sz ql : Nat}
set_option maxRecDepth 100000 in
set_option maxHeartbeats 4000000 in
/-- where the last place of a list is kept -/
theorem plist_any {p : Nat} (c7 : w.cell? ⟨g, 7, none⟩ = some (.slice A n c)) (c8 : w.cell? ⟨g, 8, none⟩ = some (.slice (some ⟨ql, 0, none⟩) sz sz)) (hS : Sl w A n (bv b)) (hn : n ≤ 1000000000) (hp : p + 1 < n) (h1 : 1 ≤ sz) (h2 : sz ≤ 65536) :
    Calls Try.prog 66 #[.pointer (some ⟨g, 7, none⟩), .int .i64 (p : Int)] w fun x w' => x = .returned (.pointer (some ⟨ql, hashP b sz p, none⟩)) ∧ ∃ k, w.drewN k = w' := by
  have hl : b.length = n := by rw [← bv_length]; exact hS.1
  obtain ⟨ba, oa, rfl, hba, hca⟩ := hS.2 (by omega)
  have a1 : w.cell? ⟨ba, oa + p, none⟩ = some (.int .u8 ((b.getD p 0).toNat : Int)) := by rw [hca p (by omega), bv_get b _ (by omega)]
  have a2 : w.cell? ⟨ba, oa + (p + 1), none⟩ = some (.int .u8 ((b.getD (p + 1) 0).toNat : Int)) := by rw [hca (p + 1) (by omega), bv_get b _ (by omega)]
  have ht := twoP_lt b p
  have hh := hash_lt (b := b) (p := p) h1
  obtain ⟨t, ht0⟩ : ∃ t, t = twoP b p := ⟨_, rfl⟩
  obtain ⟨u, hu0⟩ : ∃ u, u = hashP b sz p := ⟨_, rfl⟩
  obtain ⟨p1, hp1⟩ : ∃ p1, p1 = p + 1 := ⟨_, rfl⟩
  have ht1 : t = (b.getD p 0).toNat * 256 ||| (b.getD (p + 1) 0).toNat := ht0
  have hu1 : u = t &&& (sz - 1) := by rw [hu0, ht0]; rfl
  rw [← hp1] at a2 ht1
  rw [← hu0] at hh ⊢
  rw [← ht0] at ht
  generalize b.getD p 0 = x at *
  generalize b.getD p1 0 = y at *
  obtain ⟨X, hX⟩ : ∃ X, X = x.toNat * 256 := ⟨_, rfl⟩
  obtain ⟨z1, hz1⟩ : ∃ z1, z1 = sz - 1 := ⟨_, rfl⟩
  rw [← hX] at ht1
  rw [← hz1] at hu1
  have hxx := x.toNat_lt
  have hyy := y.toNat_lt
  have e0 : IntKind.i64.wrap (x.toNat : Int) = (x.toNat : Int) := IntWalk.i64_in _ (by omega)
  have e0' : IntKind.i64.wrap (y.toNat : Int) = (y.toNat : Int) := IntWalk.i64_in _ (by omega)
  have e1 : IntKind.i64.wrap ((x.toNat : Int) * 2 ^ 8) = (X : Int) := by rw [IntWalk.i64_in _ (by omega)]; omega
  have e2 : IntKind.i64.wrap ((x.toNat : Int) * 256) = (X : Int) := by rw [IntWalk.i64_in _ (by omega)]; omega
  have e3 : bits .or .i64 (X : Int) (y.toNat : Int) = (t : Int) := by rw [ht1]; exact pi64_or _ _ (by omega) (by omega)
  have e4 : IntKind.i64.wrap ((p : Int) + 1) = (p1 : Int) := by rw [IntWalk.i64_in _ (by omega)]; omega
  have e5 : IntKind.i64.wrap ((sz : Int) - 1) = (z1 : Int) := by rw [IntWalk.i64_in _ (by omega)]; omega
  have e6 : bits .and .i64 (t : Int) (z1 : Int) = (u : Int) := by rw [hu1]; exact pi64_and _ _ (by omega) (by omega)
  have b1 : (0 : Int) ≤ (p : Int) := by omega
  have b2 : (p : Int) < (n : Int) := by omega
  have b3 : (0 : Int) ≤ (p1 : Int) := by omega
  have b4 : (p1 : Int) < (n : Int) := by omega
  have b5 : (0 : Int) ≤ (u : Int) := by omega
  have b6 : (u : Int) < (sz : Int) := by omega
  clear hS hn hl hba hca hp h1 h2 ht hh ht0 hu0 ht1 hu1 hX hz1 hxx hyy hp1
  go_enter Try.func66, Try.ntmps66
  go_wp2_with fail
  go_quiet (fail)
  go_wp2_with fail
  have HK := Lib.hid (World.drewN_drewN (w := w) (n := nq))
  go_quiet (fail)
  go_wp2_with fail
  go_ret
  exact ⟨rfl, _, (HK.out nq).symm⟩
end
section
variable {w : World} {g : Nat} {A : Option Addr} {n c cnt : Nat} {b : List UInt8} {sz ql qa ca : Nat} {cs : Array Value}
set_option maxRecDepth 100000 in
set_option maxHeartbeats 4000000 in
/-- the last place of a list -/
theorem plast_any {p : Nat} (c7 : w.cell? ⟨g, 7, none⟩ = some (.slice A n c)) (c8 : w.cell? ⟨g, 8, none⟩ = some (.slice (some ⟨ql, 0, none⟩) sz sz)) (hS : Sl w A n (bv b)) (hn : n ≤ 1000000000) (hp : p + 1 < n) (hcn : cnt ≤ n) (hM : Md w b cnt sz ql qa ca cs) :
    Calls Try.prog 55 #[.pointer (some ⟨g, 7, none⟩), .int .i64 (p : Int)] w fun x w' => x = .returned (.int .i64 ((lastN (hashP b sz) (hashP b sz p) cnt : Nat) - 1 : Int)) ∧ ∃ k, w.drewN k = w' := by
  have K := Lib.hid (plist_any c7 c8 hS hn hp hM.s1 hM.s2)
  have hc := hM.lcell (hash_lt (b := b) (p := p) hM.s1)
  have hle := lastN_le (hashP b sz) (hashP b sz p) cnt
  generalize hashP b sz p = u at *
  generalize lastN (hashP b sz) u cnt = l at *
  have e1 : IntKind.i64.wrap (l : Int) = (l : Int) := IntWalk.i64_in _ (by omega)
  have e2 : IntKind.i64.wrap ((l : Int) - 1) = (l : Int) - 1 := IntWalk.i64_in _ (by omega)
  clear c7 c8 hS hn hp hM hle hcn
  go_enter Try.func55, Try.ntmps55
  go_wp2_with fail
  refine K.out.mono ?_
  rintro e w1 ⟨rfl, k, rfl⟩
  go_wp2_with fail
  go_ret
  exact ⟨rfl, k, rfl⟩
set_option maxRecDepth 100000 in
set_option maxHeartbeats 4000000 in
/-- the place ahead of one in its list -/
theorem pahead_any {p : Nat} (c9 : w.cell? ⟨g, 9, none⟩ = some (.slice (some ⟨qa, 0, none⟩) cnt ca)) (hp : p < cnt) (hcn : cnt ≤ 1000000000) (hM : Md w b cnt sz ql qa ca cs) :
    Calls Try.prog 56 #[.pointer (some ⟨g, 7, none⟩), .int .i64 (p : Int)] w fun x w' => x = .returned (.int .i64 ((lastN (hashP b sz) (hashP b sz p) p : Nat) - 1 : Int)) ∧ w = w' := by
  have hc := hM.acell hp
  have hle := lastN_le (hashP b sz) (hashP b sz p) p
  generalize lastN (hashP b sz) (hashP b sz p) p = l at *
  have e1 : IntKind.i64.wrap (l : Int) = (l : Int) := IntWalk.i64_in _ (by omega)
  have e2 : IntKind.i64.wrap ((l : Int) - 1) = (l : Int) - 1 := IntWalk.i64_in _ (by omega)
  have b1 : (0 : Int) ≤ (p : Int) := by omega
  have b2 : (p : Int) < (cnt : Int) := by omega
  clear hp hM hle hcn
  go_enter Try.func56, Try.ntmps56
  go_wp2_with fail
  go_ret
  exact ⟨rfl, rfl⟩
end
end Go.Proofs.Ytkdmahdhbogmeaa

/-
  How many bits a number has: some number up to 32.
-/
namespace Go.Proofs.Ytkdmahdhbogmeaa
open Go.RowKit

theorem plen8 {x : Nat} (hx : x < 256) : Lib.len8 (x : Int) = (Lib.bitLen x : Int) := Lib.len8_eq ⟨x, hx⟩
def LenPost (w : World) (e : Ending) (w' : World) : Prop := (∃ k : Nat, k ≤ 32 ∧ e = .returned (.int .i64 (k : Int))) ∧ w = w'
set_option maxRecDepth 100000 in
set_option maxHeartbeats 2000000 in
theorem plen64_any {x : Nat} (hx : x < 4294967296) (w : World) : Calls Try.prog 69 #[.int .u64 (x : Int)] w (LenPost w) := by
  have main : ∀ (y n : Nat), y < 256 → n ≤ 24 → ∃ k : Nat, k ≤ 32 ∧ wrap64 ((n : Int) + wrap64 (Lib.len8 (y : Int))) = (k : Int) := fun y n hy hn => by
    have hb := Lib.bitLen_le8 ⟨y, hy⟩
    simp only at hb
    rw [plen8 hy]
    exact ⟨n + Lib.bitLen y, by omega, by unfold wrap64; omega⟩
  have g0 : ¬ (x : Int) ≥ 4294967296 := by omega
  by_cases h2 : x < 65536
  · have g1 : ¬ (x : Int) ≥ 65536 := by omega
    by_cases h1 : x < 256
    · have g2 : ¬ (x : Int) ≥ 256 := by omega
      obtain ⟨k, hk, hm⟩ := main x 0 h1 (by decide)
      have e1 : IntKind.u8.wrap (x : Int) = (x : Int) := by simp [IntKind.wrap, IntKind.bits, IntKind.signed]; omega
      have HM := Lib.hid hm
      have g0 : (0 : Int) ≤ (x : Int) := by omega
      have g3 : (x : Int) ≤ 255 := by omega
      clear hm main hx h1 h2
      go_enter Try.func69, Try.ntmps69
      go_wp2_with fail
      go_ret
      exact ⟨⟨k, hk, ret_int (by have := HM.out; simpa using this)⟩, rfl⟩
    · have g2 : (x : Int) ≥ 256 := by omega
      obtain ⟨y, hy⟩ : ∃ y, y = x / 256 := ⟨_, rfl⟩
      obtain ⟨k, hk, hm⟩ := main y 8 (by omega) (by decide)
      have e0 : (x : Int) / 256 = (y : Int) := by omega
      have e1 : IntKind.u8.wrap (y : Int) = (y : Int) := by simp [IntKind.wrap, IntKind.bits, IntKind.signed]; omega
      have HM := Lib.hid hm
      have g0 : (0 : Int) ≤ (y : Int) := by omega
      have g3 : (y : Int) ≤ 255 := by omega
      clear hm main hx h1 h2 hy
      go_enter Try.func69, Try.ntmps69
      go_wp2_with fail
      go_ret
      exact ⟨⟨k, hk, ret_int (by have := HM.out; simpa using this)⟩, rfl⟩
  · have g1 : (x : Int) ≥ 65536 := by omega
    obtain ⟨y, hy⟩ : ∃ y, y = x / 65536 := ⟨_, rfl⟩
    have e0 : (x : Int) / 65536 = (y : Int) := by omega
    by_cases h1 : y < 256
    · have g2 : ¬ (y : Int) ≥ 256 := by omega
      obtain ⟨k, hk, hm⟩ := main y 16 h1 (by decide)
      have e1 : IntKind.u8.wrap (y : Int) = (y : Int) := by simp [IntKind.wrap, IntKind.bits, IntKind.signed]; omega
      have HM := Lib.hid hm
      have g0 : (0 : Int) ≤ (y : Int) := by omega
      have g3 : (y : Int) ≤ 255 := by omega
      clear hm main hx h1 h2 hy
      go_enter Try.func69, Try.ntmps69
      go_wp2_with fail
      go_ret
      exact ⟨⟨k, hk, ret_int (by have := HM.out; simpa using this)⟩, rfl⟩
    · have g2 : (y : Int) ≥ 256 := by omega
      obtain ⟨u, hu⟩ : ∃ u, u = y / 256 := ⟨_, rfl⟩
      have e2 : (y : Int) / 256 = (u : Int) := by omega
      obtain ⟨k, hk, hm⟩ := main u 24 (by omega) (by decide)
      have e1 : IntKind.u8.wrap (u : Int) = (u : Int) := by simp [IntKind.wrap, IntKind.bits, IntKind.signed]; omega
      have HM := Lib.hid hm
      have g0 : (0 : Int) ≤ (u : Int) := by omega
      have g3 : (u : Int) ≤ 255 := by omega
      clear hm main hx h1 h2 hy hu
      go_enter Try.func69, Try.ntmps69
      go_wp2_with fail
      go_ret
      exact ⟨⟨k, hk, ret_int (by have := HM.out; simpa using this)⟩, rfl⟩
set_option maxRecDepth 100000 in
set_option maxHeartbeats 2000000 in
theorem plen_any {x : Nat} (hx : x < 4294967296) (w : World) : Calls Try.prog 65 #[.int .u64 (x : Int)] w (LenPost w) := by
  have K := Lib.hid (plen64_any hx w)
  have e1 : IntKind.u64.wrap (x : Int) = (x : Int) := u64_in _ (by omega)
  clear hx
  go_enter Try.func65, Try.ntmps65
  go_wp2_with fail
  refine K.out.mono ?_
  rintro e w1 ⟨⟨k, hk, rfl⟩, rfl⟩
  go_wp2_with fail
  go_ret
  exact ⟨⟨k, hk, rfl⟩, rfl⟩
end Go.Proofs.Ytkdmahdhbogmeaa
