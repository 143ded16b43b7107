/-
  PcNums, Prb, CwRow, CwTree, PkLay: put together.
-/
import Derived.Test.YtjganponepafpaaQ07
import Derived.LoopTactic
import Derived.Test.YtjganponepafpaaQ06
import Derived.Test.YtjganponepafpaaQ03
import Derived.Test.YtjganponepafpaaQ01
set_option linter.unusedVariables false
set_option linter.unusedSimpArgs false
/-
  The program's coder codes numbers straight.
-/
namespace Go.Proofs.Ytjganponepafpaa
open Go.RowKit

theorem ofInt_u32' (a : Nat) (h : a < 4294967296) : (BitVec.ofInt 32 (a : Int)).toNat = a := by simp; omega
/-- the bit that the coder reckons -/
theorem bit_and (V k : Nat) (hV : V < 4294967296) : bits .and .u32 ((V : Int) / 2 ^ k) 1 = ((bitOf V k : Nat) : Int) := by
  unfold bitOf
  obtain ⟨y, hy⟩ : ∃ y, y = V / 2 ^ k := ⟨_, rfl⟩
  have h : (V : Int) / ((2 ^ k : Nat) : Int) = (y : Int) := by rw [hy]; exact (Int.natCast_ediv V (2 ^ k)).symm
  have hyl : y ≤ V := by rw [hy]; exact Nat.div_le_self _ _
  rw [cast_pow2, h, ← hy]
  show IntKind.u32.wrap ((BitVec.ofInt 32 (y : Int) &&& BitVec.ofInt 32 ((1 : Nat) : Int)).toNat : Int) = _
  rw [BitVec.toNat_and, ofInt_u32' _ (by omega), ofInt_u32' _ (by omega), Nat.and_one_is_mod]
  exact u32_of _ (by omega) (by omega)

/-- low is more, the range less, of a bit told straight -/
theorem Pw.half {w : World} {g : Nat} {G : Option Nat} {c : Co} {r lo' s n : Nat} (h : Pw w g G c r) :
    Pw ((w.setCell ⟨g, 1, none⟩ (.int .u32 (s : Int))).drewN n |>.setCell ⟨g, 0, none⟩ (.int .u64 (lo' : Int))) g G ⟨c.gs, c.wt, c.fu, lo'⟩ s := by
  obtain ⟨A, m, hB, hOw, hG, hne⟩ := h
  have h1 : Only (fun j => j = g) w ((w.setCell ⟨g, 1, none⟩ (.int .u32 (s : Int))).drewN n |>.setCell ⟨g, 0, none⟩ (.int .u64 (lo' : Int))) :=
    ((((Only.refl (fun j => j = g) w).setCell (p := ⟨g, 1, none⟩) (.inl rfl) _).drewN n).setCell (p := ⟨g, 0, none⟩) (.inl rfl) _)
  exact ⟨A, m, ((hB.put 1 _).drewN n).put 0 _, own_only' hOw h1 (fun i hi e => hne (hG.symm.trans (e ▸ hi))), hG, hne⟩

section
variable {w : World} {g b i p pc : Nat} {G : Option Nat} {c : Co} {r : Nat} {e : En} {ps : List Nat}

set_option maxHeartbeats 4000000 in
theorem pstraight_any {n V : Nat} (h : Pn w g G e) (he : EnOk e) (hn : n ≤ 32) (hV : V < 4294967296) (hlen : e.l ≤ 999999900) :
    Calls Try.prog 85 #[.pointer (some ⟨g, 0, none⟩), .int .i64 (n : Int), .int .u32 (V : Int)] w (PnPost w g G (.tuple #[]) (strE e V n n)) := by
  have HP := Lib.hid h
  have HE := Lib.hid he
  have HLEN := Lib.hid hlen
  have HV := Lib.hid hV
  have en1 : IntKind.i64.wrap ((n : Int) - 1) = (n : Int) - 1 := IntWalk.i64_in _ (by omega)
  clear h he hlen hV
  go_enter Try.func85, Try.ntmps85
  go_wp2_with fail
  go_loopw [6, 8] (fun _ i wr => ∃ (j : Nat) (G' : Option Nat), j ≤ n ∧ i = .int .i64 (j : Int) ∧ Pn wr g G' (strE e V n j) ∧ Nwr w G G' ∧ Only (pset g G) w wr) (fun _ i _ => n - (intOf i).toNat)
  case atStart => exact ⟨0, G, Nat.zero_le _, rfl, HP.out, Nwr.refl _ _, Only.refl _ _⟩
  case round =>
    clear HP
    obtain ⟨j, G', hj, rfl, hP, hN, hO⟩ := hrel
    have HN := Lib.hid hN
    have HO := Lib.hid hO
    clear hN hO
    by_cases hlt : j < n
    · have hok := strE_ok HE.out V n j
      have hll := strE_len e V n j
      obtain ⟨k, hk⟩ : ∃ k, k = n - 1 - j := ⟨_, rfl⟩
      have hnext : strE e V n (j + 1) = (strE e V n j).one (bitOf V k) := by rw [hk]; rfl
      have hL := HLEN.out
      have hEl : (strE e V n j).l ≤ 999999950 := by omega
      generalize strE e V n j = E at *
      obtain ⟨c, hPw, hc⟩ := hP
      obtain ⟨c1, z1⟩ := hPw.cell1
      have hr0 := hok.1
      have hr1 := hok.2.1
      obtain ⟨s, hs⟩ : ∃ s, s = E.r / 2 := ⟨_, rfl⟩
      have e1 : (E.r : Int) / 2 = (s : Int) := by omega
      have e2 : IntKind.u32.wrap ((E.r : Int) / 2) = (s : Int) := by rw [e1]; exact u32_of _ (by omega) (by omega)
      have e3 : IntKind.i64.wrap ((n : Int) - 1 - (j : Int)) = (k : Int) := by rw [show (n : Int) - 1 - (j : Int) = (k : Int) by omega]; exact IntWalk.i64_in _ (by omega)
      have hk0 : (0 : Int) ≤ (k : Int) := by omega
      have ej : IntKind.i64.wrap ((j : Int) + 1) = (j : Int) + 1 := IntWalk.i64_in _ (by omega)
      have hmin : min k 32 = k := by omega
      have hlt' : (j : Int) < (n : Int) := by omega
      have HS := Lib.hid hs.symm
      have HF := Lib.hid (show 65536 ≤ s ∧ s + s ≤ E.r ∧ E.l ≤ 999999950 by omega)
      clear hs hk hr0 hr1 hEl hL hll
      have eb := bit_and V k HV.out
      have e5 : (s : Int) % 4294967296 = (s : Int) := by have := HF.out; have := hok.2.1; omega
      have hbit := bitOf_le V k
      by_cases hb : bitOf V k = 0
      · rw [hb] at eb hnext
        have eb0 : bits .and .u32 ((V : Int) / 2 ^ k) 1 = 0 := eb
        have K := Lib.hid (evenOut_any (hPw.span (R := s)) (hc.mono (r' := s) (by have := HF.out; omega) (by have := HF.out; omega)) HF.out.1 (by have := HF.out; omega))
        have HNX := Lib.hid (show strE e V n (j + 1) = En.even ⟨E.n, E.l, s⟩ by rw [hnext]; unfold En.one; rw [if_pos rfl, HS.out])
        have HO1 := Lib.hid ((Only.refl (pset g G') wr).setCell (p := ⟨g, 1, none⟩) (.inl (.inl rfl)) (.int .u32 (s : Int)))
        have HSZ := Lib.hid (show (wr.setCell ⟨g, 1, none⟩ (.int .u32 (s : Int))).heap.size = wr.heap.size by simp [World.setCell])
        clear hPw hc hok hb eb hbit hnext
        go_wp2_with fail
        refine K.out.mono ?_
        rintro x w3 ⟨rfl, G2, hP2, hN2, hO2⟩
        have HP2 := Lib.hid hP2
        have HN2 := Lib.hid (HN.out.trans (fun i hi => (hN2 i hi).imp id (fun h => by rw [HSZ.out] at h; exact h)) HO.out.size)
        have HO2 := Lib.hid (pset_trans HO.out HN.out (HO1.out.trans hO2))
        clear hP2 hN2 hO2 HN HO K HO1 HSZ
        go_wp2_with fail
        go_roundw
        case rel => exact ⟨j + 1, G2, by omega, by go_num, by rw [HNX.out]; exact HP2.out, HN2.out, HO2.out⟩
        case measure => simp [intOf]; omega
      · have hb1 : bitOf V k = 1 := by omega
        rw [hb1] at eb hnext
        have eb0 : bits .and .u32 ((V : Int) / 2 ^ k) 1 = 1 := eb
        obtain ⟨c0, z0⟩ : wr.cell? ⟨g, 0, none⟩ = some (.int .u64 (c.lo : Int)) ∧ wr.frozen? ⟨g, 0, none⟩ = false := by obtain ⟨A, m, hB, _⟩ := hPw; exact ⟨hB.cell 0, hB.free 0⟩
        have hlo := hc.low
        have hsl : s < 4294967296 := by have := HF.out; have := hok.2.1; omega
        have e7 : IntKind.u64.wrap (s : Int) = (s : Int) := u64_in _ (by omega)
        have e8 : IntKind.u64.wrap ((c.lo : Int) + (s : Int)) = ((c.lo + s : Nat) : Int) := by rw [← Int.natCast_add]; exact u64_in _ (by omega)
        have K := Lib.hid (fun m => evenOut_any (Pw.half (lo' := c.lo + s) (s := s) (n := m) hPw) (hc.plus (z := s) (r' := s) (by have := HF.out; omega) (by have := HF.out; omega)) HF.out.1 (by have := HF.out; omega))
        have HNX := Lib.hid (show strE e V n (j + 1) = En.even ⟨E.n + s, E.l, s⟩ by rw [hnext]; unfold En.one; rw [if_neg (by omega), HS.out])
        have HO1 := Lib.hid (fun m => (((Only.refl (pset g G') wr).setCell (p := ⟨g, 1, none⟩) (.inl (.inl rfl)) (.int .u32 (s : Int))).drewN m).setCell (p := ⟨g, 0, none⟩) (.inl (.inl rfl)) (.int .u64 ((c.lo + s : Nat) : Int)))
        have HSZ := Lib.hid (fun m => show ((wr.setCell ⟨g, 1, none⟩ (.int .u32 (s : Int))).drewN m |>.setCell ⟨g, 0, none⟩ (.int .u64 ((c.lo + s : Nat) : Int))).heap.size = wr.heap.size by simp [World.setCell, World.drewN])
        clear hPw hc hok hb hb1 eb hbit hnext hlo hsl
        generalize c.lo + s = lo1 at *
        go_wp2_with fail
        go_region
        all_goals go_wp2_with fail
        refine (K.out 1).mono ?_
        rintro x w3 ⟨rfl, G2, hP2, hN2, hO2⟩
        have HP2 := Lib.hid hP2
        have HN2 := Lib.hid (HN.out.trans (fun i hi => (hN2 i hi).imp id (fun h => by rw [HSZ.out] at h; exact h)) HO.out.size)
        have HO2 := Lib.hid (pset_trans HO.out HN.out ((HO1.out 1).trans hO2))
        clear hP2 hN2 hO2 HN HO K HO1 HSZ
        go_wp2_with fail
        go_roundw
        case rel => exact ⟨j + 1, G2, by omega, by go_num, by rw [HNX.out]; exact HP2.out, HN2.out, HO2.out⟩
        case measure => simp [intOf]; omega
    · obtain rfl : j = n := by omega
      have HP := Lib.hid hP
      clear hP
      go_wp2_with fail
      first | go_end0 | refine bodyPost_ret (results_none rfl _ _ _) rfl ?_
      exact ⟨rfl, G', HP.out, HN.out, HO.out⟩
end
end Go.Proofs.Ytjganponepafpaa

/-
  Probabilities in memory, wherever each lies.
-/
namespace Go.Proofs.Ytjganponepafpaa
open Go.RowKit

/-- Probabilities in memory: where each lies (ad), in which blocks (B), so many (L). -/
structure Prb (R : World → List Nat → Prop) (B : Nat → Prop) (ad : Nat → Nat × Nat) (L : Nat) : Prop where
  blk : ∀ {a}, a < L → B (ad a).1
  cell : ∀ {w ps a}, R w ps → a < L → w.cell? ⟨(ad a).1, (ad a).2, none⟩ = some (.int .u16 ((ps.getD a 0 : Nat) : Int))
  free : ∀ {w ps a}, R w ps → a < L → w.frozen? ⟨(ad a).1, (ad a).2, none⟩ = false
  put : ∀ {w ps a}, R w ps → a < L → ∀ q : Nat, R (w.setCell ⟨(ad a).1, (ad a).2, none⟩ (.int .u16 (q : Int))) (ps.set a q)
  only : ∀ {w w' ps} {S : Nat → Prop}, R w ps → Only S w w' → (∀ i, B i → ¬ S i) → R w' ps
  len : ∀ {w ps}, R w ps → ps.length = L
  old : ∀ {w ps i}, R w ps → B i → i < w.heap.size
end Go.Proofs.Ytjganponepafpaa

/-
  The program's coder of ranges over probabilities that lie wherever they lie: bits, trees, straight.
-/
namespace Go.Proofs.Ytjganponepafpaa
open Go.RowKit

/-- what a coder turns -/
def cset (g : Nat) (G : Option Nat) (B : Nat → Prop) : Nat → Prop := fun i => i = g ∨ G = some i ∨ B i
theorem cset_of {g : Nat} {G : Option Nat} {B : Nat → Prop} {i : Nat} (h : pset g G i) : cset g G B i := by
  rcases h with h | h
  · exact .inl h
  · exact .inr (.inl h)
theorem cset_trans {w w1 w2 : World} {g : Nat} {B : Nat → Prop} {G G1 : Option Nat} (h : Only (cset g G B) w w1) (hn : Nwr w G G1) (k : Only (cset g G1 B) w1 w2) : Only (cset g G B) w w2 :=
  h.trans' k fun i hi => by
    rcases hi with hi | hi | hi
    · exact .inl (.inl hi)
    · rcases hn i hi with h1 | h1
      · exact .inl (.inr (.inl h1))
      · exact .inr h1
    · exact .inl (.inr (.inr hi))
/-- its probabilities lie apart from it -/
def Off (g : Nat) (G : Option Nat) (B : Nat → Prop) : Prop := ∀ i, B i → i ≠ g ∧ G ≠ some i
theorem Off.grow {w : World} {g : Nat} {G G' : Option Nat} {B : Nat → Prop} (h : Off g G B) (hn : Nwr w G G') (ho : ∀ i, B i → i < w.heap.size) : Off g G' B := fun i hi => ⟨(h i hi).1, fun e => by
  rcases hn i e with h1 | h1
  · exact (h i hi).2 h1
  · have := ho i hi
    omega⟩
/-- the machine and its probabilities, in memory; it may be asked for k bits more -/
structure Cmch (R : World → List Nat → Prop) (g : Nat) (G : Option Nat) (L k : Nat) (w : World) (t : Pm En) : Prop where
  pn : Pn w g G t.x
  row : R w t.ps
  ok : PmOk okE L k t
def CPost (R : World → List Nat → Prop) (B : Nat → Prop) (g : Nat) (G : Option Nat) (L k : Nat) (w : World) (t : Pm En) (e : Ending) (w' : World) : Prop :=
  e = .returned (.tuple #[]) ∧ ∃ G', Cmch R g G' L k w' t ∧ Nwr w G G' ∧ Only (cset g G B) w w'

section
variable {R : World → List Nat → Prop} {B : Nat → Prop} {ad : Nat → Nat × Nat} {L g b i p a k : Nat} {G : Option Nat} {w : World} {c : Co} {r : Nat} {e : En} {ps : List Nat} {t : Pm En}

/-- low is more, the range less, a probability another one -/
theorem Pw.tur {lo' r' q n : Nat} (Z : Prb R B ad L) (h : Pw w g G c r) (hR : R w ps) (hab : ad a = (b, i)) (ha : a < L) (hB : Off g G B) :
    Pw (((w.setCell ⟨g, 0, none⟩ (.int .u64 (lo' : Int))).setCell ⟨g, 1, none⟩ (.int .u32 (r' : Int))).drewN n |>.setCell ⟨b, i, none⟩ (.int .u16 (q : Int))) g G ⟨c.gs, c.wt, c.fu, lo'⟩ r' ∧
    R (((w.setCell ⟨g, 0, none⟩ (.int .u64 (lo' : Int))).setCell ⟨g, 1, none⟩ (.int .u32 (r' : Int))).drewN n |>.setCell ⟨b, i, none⟩ (.int .u16 (q : Int))) (ps.set a q) ∧
    Only (cset g G B) w (((w.setCell ⟨g, 0, none⟩ (.int .u64 (lo' : Int))).setCell ⟨g, 1, none⟩ (.int .u32 (r' : Int))).drewN n |>.setCell ⟨b, i, none⟩ (.int .u16 (q : Int))) := by
  have hBb : B b := by have := Z.blk ha; rw [hab] at this; exact this
  obtain ⟨hbg, hbG⟩ := hB b hBb
  obtain ⟨A, m, hB', hOw, hG, hne⟩ := h
  have h1 : Only (fun j => j = g) w (((w.setCell ⟨g, 0, none⟩ (.int .u64 (lo' : Int))).setCell ⟨g, 1, none⟩ (.int .u32 (r' : Int))).drewN n) :=
    (((Only.refl (fun j => j = g) w).setCell (p := ⟨g, 0, none⟩) (.inl rfl) _).setCell (p := ⟨g, 1, none⟩) (.inl rfl) _).drewN n
  have h2 := (h1.mono (S' := fun j => j = g ∨ j = b) (fun j hj => .inl hj)).setCell (p := ⟨b, i, none⟩) (.inl (.inr rfl)) (.int .u16 (q : Int))
  have hp := Z.put (Z.only hR h1 (fun j hj e => (hB j hj).1 e)) ha q
  rw [hab] at hp
  refine ⟨⟨A, m, (((hB'.put 0 _).put 1 _).drewN n).far hbg.symm _, own_only' hOw h2 ?_, hG, hne⟩, hp, h2.mono ?_⟩
  · intro j hj hs
    rcases hs with hs | hs
    · exact hne (hG.symm.trans (hs ▸ hj))
    · exact hbG (hG.symm.trans (hs ▸ hj))
  · intro j hj
    rcases hj with hj | hj
    · exact .inl hj
    · exact .inr (.inr (hj ▸ hBb))
/-- the range is less, a probability another one -/
theorem Pw.tur' {r' q n : Nat} (Z : Prb R B ad L) (h : Pw w g G c r) (hR : R w ps) (hab : ad a = (b, i)) (ha : a < L) (hB : Off g G B) :
    Pw ((w.setCell ⟨g, 1, none⟩ (.int .u32 (r' : Int))).drewN n |>.setCell ⟨b, i, none⟩ (.int .u16 (q : Int))) g G c r' ∧
    R ((w.setCell ⟨g, 1, none⟩ (.int .u32 (r' : Int))).drewN n |>.setCell ⟨b, i, none⟩ (.int .u16 (q : Int))) (ps.set a q) ∧
    Only (cset g G B) w ((w.setCell ⟨g, 1, none⟩ (.int .u32 (r' : Int))).drewN n |>.setCell ⟨b, i, none⟩ (.int .u16 (q : Int))) := by
  have hBb : B b := by have := Z.blk ha; rw [hab] at this; exact this
  obtain ⟨hbg, hbG⟩ := hB b hBb
  obtain ⟨A, m, hB', hOw, hG, hne⟩ := h
  have h1 : Only (fun j => j = g) w ((w.setCell ⟨g, 1, none⟩ (.int .u32 (r' : Int))).drewN n) :=
    ((Only.refl (fun j => j = g) w).setCell (p := ⟨g, 1, none⟩) (.inl rfl) _).drewN n
  have h2 := (h1.mono (S' := fun j => j = g ∨ j = b) (fun j hj => .inl hj)).setCell (p := ⟨b, i, none⟩) (.inl (.inr rfl)) (.int .u16 (q : Int))
  have hp := Z.put (Z.only hR h1 (fun j hj e => (hB j hj).1 e)) ha q
  rw [hab] at hp
  refine ⟨⟨A, m, ((hB'.put 1 _).drewN n).far hbg.symm _, own_only' hOw h2 ?_, hG, hne⟩, hp, h2.mono ?_⟩
  · intro j hj hs
    rcases hs with hs | hs
    · exact hne (hG.symm.trans (hs ▸ hj))
    · exact hbG (hG.symm.trans (hs ▸ hj))
  · intro j hj
    rcases hj with hj | hj
    · exact .inl hj
    · exact .inr (.inr (hj ▸ hBb))

def CBit (R : World → List Nat → Prop) (B : Nat → Prop) (g : Nat) (G : Option Nat) (w : World) (ps : List Nat) (e' : En) (x : Ending) (w' : World) : Prop :=
  x = .returned (.tuple #[]) ∧ ∃ G', Pn w' g G' e' ∧ R w' ps ∧ Nwr w G G' ∧ Only (cset g G B) w w'
/-- the end of a bit: what was evened out -/
theorem cbit_end {w w1 w2 : World} {ps : List Nat} {x : Ending} {e' : En} (Z : Prb R B ad L) (hR : R w1 ps) (hO : Only (cset g G B) w w1) (hB : Off g G B) (hs : w.heap.size = w1.heap.size) (h : PnPost w1 g G (.tuple #[]) e' x w2) : CBit R B g G w ps e' x w2 := by
  obtain ⟨rfl, G', hP, hN, hO2⟩ := h
  refine ⟨rfl, G', hP, Z.only hR hO2 (fun i hi h => ?_), fun i hi => (hN i hi).imp id (fun h => by rw [hs]; exact h), hO.trans (hO2.mono fun i hi => cset_of hi)⟩
  rcases h with h | h
  · exact (hB i hi).1 h
  · exact (hB i hi).2 h

set_option maxHeartbeats 4000000 in
theorem cbit_zero {z : Nat} (hz : z = e.r / 2048 * p) (Z : Prb R B ad L) (h : Pn w g G e) (he : EnOk e) (hR : R w ps) (hab : ad a = (b, i)) (ha : a < L) (hpi : p = ps.getD a 0) (hp : POk p) (hB : Off g G B) (hlen : e.l ≤ 999999999) :
    Calls Try.prog 64 #[.pointer (some ⟨g, 0, none⟩), .pointer (some ⟨b, i, none⟩), .int .i64 0] w (CBit R B g G w (ps.set a (up0 p)) (En.even ⟨e.n, e.l, z⟩)) := by
  obtain ⟨b0, b1⟩ := bound_in he.1 he.2.1 hp
  have hr := he.2.1
  obtain ⟨p0, p1⟩ := hp
  obtain ⟨c, hP, hc⟩ := h
  rw [← hz] at b0 b1
  obtain ⟨c1, z1⟩ := hP.cell1
  have hx : w.cell? ⟨b, i, none⟩ = some (.int .u16 (p : Int)) := by have := Z.cell hR ha; rw [hab] at this; rw [hpi]; exact this
  have zx : w.frozen? ⟨b, i, none⟩ = false := by have := Z.free hR ha; rw [hab] at this; exact this
  have e0 : IntKind.u32.wrap (p : Int) = (p : Int) := u32_of _ (by omega) (by omega)
  have e1 : IntKind.u32.wrap ((e.r : Int) / 2048 * (p : Int)) = (z : Int) := by
    rw [show (e.r : Int) / 2048 * (p : Int) = (z : Int) by rw [hz]; simp]
    exact u32_of _ (by omega) (by omega)
  have e1' : IntKind.u32.wrap ((e.r : Int) / 2048) = (e.r : Int) / 2048 := u32_of _ (by omega) (by omega)
  have hcz : CoN c e.n e.l z := hc.mono (by omega) (by omega)
  have e2 : IntKind.u16.wrap (2048 - (p : Int)) = 2048 - (p : Int) := u16_in _ (by omega)
  obtain ⟨u, hu⟩ : ∃ u, u = (2048 - p) / 32 := ⟨_, rfl⟩
  have e3 : IntKind.u16.wrap ((2048 - (p : Int)).tdiv 32) = (u : Int) := by
    rw [Int.tdiv_eq_ediv_of_nonneg (by omega), show (2048 - (p : Int)) / 32 = (u : Int) by omega]
    exact u16_in _ (by omega)
  have hup : up0 p = p + u := by unfold up0; omega
  have e5 : IntKind.u16.wrap ((p : Int) + (u : Int)) = ((p + u : Nat) : Int) := by rw [← Int.natCast_add]; exact u16_in _ (by omega)
  rw [hup]
  have HT := Lib.hid (fun n => Pw.tur' (r' := z) (q := p + u) (n := n) Z hP hR hab ha hB)
  have K := Lib.hid (fun n => evenOut_any (HT.out n).1 hcz (by omega) (by omega))
  have HS := Lib.hid (fun n => show w.heap.size = ((w.setCell ⟨g, 1, none⟩ (.int .u32 (z : Int))).drewN n |>.setCell ⟨b, i, none⟩ (.int .u16 ((p + u : Nat) : Int))).heap.size by simp [World.setCell, World.drewN])
  have HB := Lib.hid hB
  have HZ := Lib.hid Z
  have hbg : b ≠ g := (hB b (by have := Z.blk ha; rw [hab] at this; exact this)).1
  clear hu hup hz hpi hP hc hcz hR he hB Z ha hab
  generalize p + u = q at *
  go_enter Try.func64, Try.ntmps64
  go_wp2_with fail
  go_quiet (fail)
  go_wp2_with fail
  go_region
  all_goals go_wp2_with fail
  refine (K.out (nq + 1)).mono ?_
  intro x w2 hx2
  have HE := Lib.hid (cbit_end HZ.out (HT.out (nq + 1)).2.1 (HT.out (nq + 1)).2.2 HB.out (HS.out (nq + 1)) hx2)
  obtain ⟨rfl, _⟩ := hx2
  clear HT K HS
  go_wp2_with fail
  first | go_end0 | refine bodyPost_ret (results_none rfl _ _ _) rfl ?_
  exact HE.out

set_option maxHeartbeats 4000000 in
theorem cbit_one {z : Nat} (hz : z = e.r / 2048 * p) (Z : Prb R B ad L) (h : Pn w g G e) (he : EnOk e) (hR : R w ps) (hab : ad a = (b, i)) (ha : a < L) (hpi : p = ps.getD a 0) (hp : POk p) (hB : Off g G B) (hlen : e.l ≤ 999999999) :
    Calls Try.prog 64 #[.pointer (some ⟨g, 0, none⟩), .pointer (some ⟨b, i, none⟩), .int .i64 1] w (CBit R B g G w (ps.set a (up1 p)) (En.even ⟨e.n + z, e.l, e.r - z⟩)) := by
  obtain ⟨b0, b1⟩ := bound_in he.1 he.2.1 hp
  have hr := he.2.1
  obtain ⟨p0, p1⟩ := hp
  obtain ⟨c, hP, hc⟩ := h
  rw [← hz] at b0 b1
  obtain ⟨c1, z1⟩ := hP.cell1
  obtain ⟨c0, z0⟩ : w.cell? ⟨g, 0, none⟩ = some (.int .u64 (c.lo : Int)) ∧ w.frozen? ⟨g, 0, none⟩ = false := by obtain ⟨A, m, hB, _⟩ := hP; exact ⟨hB.cell 0, hB.free 0⟩
  have hx : w.cell? ⟨b, i, none⟩ = some (.int .u16 (p : Int)) := by have := Z.cell hR ha; rw [hab] at this; rw [hpi]; exact this
  have zx : w.frozen? ⟨b, i, none⟩ = false := by have := Z.free hR ha; rw [hab] at this; exact this
  have e0 : IntKind.u32.wrap (p : Int) = (p : Int) := u32_of _ (by omega) (by omega)
  have e1 : IntKind.u32.wrap ((e.r : Int) / 2048 * (p : Int)) = (z : Int) := by
    rw [show (e.r : Int) / 2048 * (p : Int) = (z : Int) by rw [hz]; simp]
    exact u32_of _ (by omega) (by omega)
  have e1' : IntKind.u32.wrap ((e.r : Int) / 2048) = (e.r : Int) / 2048 := u32_of _ (by omega) (by omega)
  have hlo := hc.low
  have e7 : IntKind.u64.wrap (z : Int) = (z : Int) := u64_in _ (by omega)
  have e8 : IntKind.u64.wrap ((c.lo : Int) + (z : Int)) = ((c.lo + z : Nat) : Int) := by rw [← Int.natCast_add]; exact u64_in _ (by omega)
  have e9 : IntKind.u32.wrap ((e.r : Int) - (z : Int)) = ((e.r - z : Nat) : Int) := by rw [show (e.r : Int) - (z : Int) = ((e.r - z : Nat) : Int) by omega]; exact u32_of _ (by omega) (by omega)
  have hcz : CoN (c.plus z) (e.n + z) e.l (e.r - z) := hc.plus (by omega) (by omega)
  have hup : up1 p = p - p / 32 := rfl
  have e5 : IntKind.u16.wrap ((p : Int) - (p : Int) / 32) = ((p - p / 32 : Nat) : Int) := by rw [show (p : Int) - (p : Int) / 32 = ((p - p / 32 : Nat) : Int) by omega]; exact u16_in _ (by omega)
  have e6 : IntKind.u16.wrap ((p : Int) / 32) = (p : Int) / 32 := u16_in _ (by omega)
  rw [hup]
  have HT := Lib.hid (fun n => Pw.tur (lo' := c.lo + z) (r' := e.r - z) (q := p - p / 32) (n := n) Z hP hR hab ha hB)
  have K := Lib.hid (fun n => evenOut_any (HT.out n).1 hcz (by omega) (by omega))
  have HS := Lib.hid (fun n => show w.heap.size = (((w.setCell ⟨g, 0, none⟩ (.int .u64 ((c.lo + z : Nat) : Int))).setCell ⟨g, 1, none⟩ (.int .u32 ((e.r - z : Nat) : Int))).drewN n |>.setCell ⟨b, i, none⟩ (.int .u16 ((p - p / 32 : Nat) : Int))).heap.size by simp [World.setCell, World.drewN])
  have HB := Lib.hid hB
  have HZ := Lib.hid Z
  have hbg : b ≠ g := (hB b (by have := Z.blk ha; rw [hab] at this; exact this)).1
  clear hup hz hpi hP hc hcz hR he hB Z ha hab hlo
  generalize p - p / 32 = q at *
  generalize e.r - z = r1 at *
  generalize c.lo + z = lo1 at *
  go_enter Try.func64, Try.ntmps64
  go_wp2_with fail
  go_quiet (fail)
  go_wp2_with fail
  go_region
  all_goals go_wp2_with fail
  refine (K.out (nq + 1)).mono ?_
  intro x w2 hx2
  have HE := Lib.hid (cbit_end HZ.out (HT.out (nq + 1)).2.1 (HT.out (nq + 1)).2.2 HB.out (HS.out (nq + 1)) hx2)
  obtain ⟨rfl, _⟩ := hx2
  clear HT K HS
  go_wp2_with fail
  first | go_end0 | refine bodyPost_ret (results_none rfl _ _ _) rfl ?_
  exact HE.out

theorem cw_bit {bit : Nat} (Z : Prb R B ad L) (hB : Off g G B) (hab : ad a = (b, i)) (ha : a < L) (h : Cmch R g G L (k + 1) w t) (hb : bit ≤ 1) :
    Calls Try.prog 64 #[.pointer (some ⟨g, 0, none⟩), .pointer (some ⟨b, i, none⟩), .int .i64 (bit : Int)] w (CPost R B g G L k w (bitP encM t a (bit : Int)).2) := by
  have hal : a < t.ps.length := by rw [h.ok.len]; exact ha
  have hok := (bitP_ok encM_ok (a := a) (w := (bit : Int)) h.ok ha (fun _ => by omega)).2
  have hlen : t.x.l ≤ 999999999 := by have := h.ok.x.2; omega
  have hdef : (bitP encM t a (bit : Int)).2 = ⟨t.ps.set a (upOf (t.ps.getD a 0) bit), t.x.bit (t.ps.getD a 0) bit⟩ := rfl
  rw [hdef] at hok ⊢
  have hp := getD_ok h.ok.ps hal
  unfold upOf En.bit at hok ⊢
  by_cases hb0 : bit = 0
  · subst hb0
    rw [if_pos rfl, if_pos rfl] at hok ⊢
    refine (cbit_zero rfl Z h.pn h.ok.x.1 h.row hab ha rfl hp hB hlen).mono ?_
    rintro x w' ⟨rfl, G', h1, h2, h3, h4⟩
    exact ⟨rfl, G', ⟨h1, h2, hok⟩, h3, h4⟩
  · obtain rfl : bit = 1 := by omega
    rw [if_neg hb0, if_neg hb0] at hok ⊢
    refine (cbit_one rfl Z h.pn h.ok.x.1 h.row hab ha rfl hp hB hlen).mono ?_
    rintro x w' ⟨rfl, G', h1, h2, h3, h4⟩
    exact ⟨rfl, G', ⟨h1, h2, hok⟩, h3, h4⟩
theorem cw_straight {n V : Nat} (Z : Prb R B ad L) (hB : Off g G B) (h : Cmch R g G L (k + 1) w t) (hn : n ≤ 32) (hV : V < 4294967296) (hok : okE k (strE t.x V n n)) :
    Calls Try.prog 85 #[.pointer (some ⟨g, 0, none⟩), .int .i64 (n : Int), .int .u32 (V : Int)] w (CPost R B g G L k w ⟨t.ps, strE t.x V n n⟩) := by
  refine (pstraight_any h.pn h.ok.x.1 hn hV (by have := h.ok.x.2; omega)).mono ?_
  rintro x w' ⟨rfl, G', hP, hN, hO⟩
  refine ⟨rfl, G', ⟨hP, Z.only h.row hO (fun i hi e => ?_), ⟨h.ok.ps, h.ok.len, hok⟩⟩, hN, hO.mono fun i hi => cset_of hi⟩
  rcases e with e | e
  · exact (hB i hi).1 e
  · exact (hB i hi).2 e
end
end Go.Proofs.Ytjganponepafpaa

/-
  The program's coder of ranges codes numbers by trees that lie wherever they lie.
-/
namespace Go.Proofs.Ytjganponepafpaa
open Go.RowKit

section
variable {R : World → List Nat → Prop} {B : Nat → Prop} {ad : Nat → Nat × Nat} {L g a k : Nat} {G : Option Nat} {w : World} {t : Pm En}

set_option maxHeartbeats 4000000 in
theorem cw_tree {n b o len cap V : Nat} (Z : Prb R B ad L) (hB : Off g G B) (had : ∀ m, m < 2 ^ n → ad (a + m) = (b, o + m)) (haL : a + 2 ^ n ≤ L) (h : Cmch R g G L (k + n) w t) (hn : 2 ^ n ≤ len) (hn8 : n ≤ 8) (hV : V < 4294967296) :
    Calls Try.prog 70 #[.pointer (some ⟨g, 0, none⟩), .slice (some ⟨b, o, none⟩) len cap, .int .i64 (n : Int), .int .u32 (V : Int)] w
      (CPost R B g G L k w (treeP encM t a n (V : Int)).2) := by
  have HZ := Lib.hid Z
  have HB := Lib.hid hB
  have HAD := Lib.hid had
  have HM := Lib.hid h
  have HV := Lib.hid hV
  have HT := Lib.hid (treeG_ok encM_ok (k := k) (a := a) (n := n) (v := (V : Int)) h.ok haL (fun _ => by omega))
  have en1 : IntKind.i64.wrap ((n : Int) - 1) = (n : Int) - 1 := IntWalk.i64_in _ (by omega)
  have HLL := Lib.hid haL
  clear h Z hB had hV haL
  go_enter Try.func70, Try.ntmps70
  go_wp2_with fail
  go_loopw [8, 9, 10, 12] (fun m _ _ i wr => ∃ (j : Nat) (T : Tg En) (G' : Option Nat), j ≤ n ∧ T = treeG encM t a n (V : Int) j ∧ i = .int .i64 (j : Int) ∧ m = .int .i64 (T.m : Int) ∧ Cmch R g G' L (k + n - j) wr T.t ∧ Nwr w G G' ∧ Only (cset g G B) w wr) (fun _ _ _ i _ => n - (intOf i).toNat)
  case atStart => exact ⟨0, _, G, Nat.zero_le _, rfl, rfl, rfl, HM.out, Nwr.refl _ _, Only.refl _ _⟩
  case round =>
    obtain ⟨j, T, G', hj, hT, rfl, rfl, hM, hN, hO⟩ := hrel
    have tok := HT.out j hj
    rw [← hT] at tok
    have t4 := tok.2.1
    have t5 := tok.2.2
    have HO := Lib.hid hO
    have HN := Lib.hid hN
    have HT0 := Lib.hid hT
    by_cases hlt : j < n
    · have hpow : 2 ^ (j + 1) ≤ 2 ^ n := Nat.pow_le_pow_right (by omega) hlt
      have h256 := pow8 hn8
      obtain ⟨kk, hk⟩ : ∃ k, k = n - 1 - j := ⟨_, rfl⟩
      have hbit := bitOf_le V kk
      have hil : T.m < 2 ^ n := by omega
      have hoff := HB.out.grow hN (fun i hi => HZ.out.old HM.out.row hi)
      have K := cw_bit (k := k + n - (j + 1)) (a := a + T.m) (i := o + T.m) (bit := bitOf V kk) HZ.out hoff (HAD.out T.m hil) (by have := HLL.out; omega) (by rw [show k + n - (j + 1) + 1 = k + n - j by omega]; exact hM) hbit
      have hm1 : (T.m : Int) < (len : Int) := by omega
      have hm0 : (0 : Int) ≤ (T.m : Int) := by omega
      have hst : tgStep encM a j (want (V : Int) kk) T = treeG encM t a n (V : Int) (j + 1) := by rw [HT0.out, hk]; rfl
      rw [want_nat] at hst
      have HST := Lib.hid hst
      have hsm : (tgStep encM a j ((bitOf V kk : Nat) : Int) T).m = 2 * T.m + bitOf V kk := rfl
      have hsd : (tgStep encM a j ((bitOf V kk : Nat) : Int) T).t = (bitP encM T.t (a + T.m) ((bitOf V kk : Nat) : Int)).2 := rfl
      rw [← hsd] at K
      have K := Lib.hid K
      have eb := bit_and V kk HV.out
      have hmin : min kk 32 = kk := by omega
      have hk0 : (0 : Int) ≤ (kk : Int) := by omega
      have HSZ := Lib.hid hO.size
      have e3 : IntKind.i64.wrap ((n : Int) - 1 - (j : Int)) = (kk : Int) := by rw [show (n : Int) - 1 - (j : Int) = (kk : Int) by omega]; exact IntWalk.i64_in _ (by omega)
      have hlt' : (j : Int) < (n : Int) := by omega
      have hm5 : T.m < 512 := by omega
      have ej : IntKind.i64.wrap ((j : Int) + 1) = (j : Int) + 1 := IntWalk.i64_in _ (by omega)
      have HSM := Lib.hid hsm
      generalize bitOf V kk = u at *
      have e2 : IntKind.i64.wrap (2 * (T.m : Int)) = 2 * (T.m : Int) := IntWalk.i64_in _ (by omega)
      have e4 : IntKind.i64.wrap (2 * (T.m : Int) + (u : Int)) = ((2 * T.m + u : Nat) : Int) := by rw [show 2 * (T.m : Int) + (u : Int) = ((2 * T.m + u : Nat) : Int) by omega]; exact IntWalk.i64_in _ (by omega)
      have e5 : IntKind.i64.wrap (u : Int) = (u : Int) := IntWalk.i64_in _ (by omega)
      clear hM hN hO hT tok t4 t5 hpow h256 hbit hil hsm hsd hoff hst HT hk hm5
      generalize tgStep encM a j (u : Int) T = T' at *
      generalize T.m = y at *
      go_wp2_with fail
      refine K.out.mono ?_
      rintro x w1 ⟨rfl, G2, hM1, hN1, hO1⟩
      have HM1 := Lib.hid hM1
      have HN1 := Lib.hid (HN.out.trans hN1 HSZ.out)
      have HO1 := Lib.hid (cset_trans HO.out HN.out hO1)
      clear hM1 hN1 hO1 HO HN K
      go_wp2_with fail
      go_roundw
      case rel =>
        exact ⟨j + 1, T', G2, by omega, HST.out, by go_num, by rw [HSM.out]; go_num, HM1.out, HN1.out, HO1.out⟩
      case measure => simp [intOf]; omega
    · obtain rfl : j = n := by omega
      rw [show k + j - j = k by omega] at hM
      have HM2 := Lib.hid hM
      clear hM hN hO tok t4 t5 HT hT
      generalize T.m = y at *
      go_wp2_with fail
      first | go_end0 | refine bodyPost_ret (results_none rfl _ _ _) rfl ?_
      have := HM2.out
      rw [HT0.out] at this
      exact ⟨rfl, G', this, HN.out, HO.out⟩

set_option maxHeartbeats 4000000 in
theorem cw_rev {n b o len cap V : Nat} (Z : Prb R B ad L) (hB : Off g G B) (had : ∀ m, m < 2 ^ n → ad (a + m) = (b, o + m)) (haL : a + 2 ^ n ≤ L) (h : Cmch R g G L (k + n) w t) (hn : 2 ^ n ≤ len) (hn8 : n ≤ 8) (hV : V < 4294967296) :
    Calls Try.prog 84 #[.pointer (some ⟨g, 0, none⟩), .slice (some ⟨b, o, none⟩) len cap, .int .i64 (n : Int), .int .u32 (V : Int)] w
      (CPost R B g G L k w (revP encM t a n (V : Int)).2) := by
  have HZ := Lib.hid Z
  have HB := Lib.hid hB
  have HAD := Lib.hid had
  have HM := Lib.hid h
  have HV := Lib.hid hV
  have HT := Lib.hid (revG_ok encM_ok (k := k) (a := a) (n := n) (v := (V : Int)) h.ok haL (fun _ => by omega))
  have HLL := Lib.hid haL
  clear h Z hB had hV haL
  go_enter Try.func84, Try.ntmps84
  go_wp2_with fail
  go_loopw [8, 9, 10, 12] (fun m _ _ i wr => ∃ (j : Nat) (T : Tg En) (G' : Option Nat), j ≤ n ∧ T = revG encM t a (V : Int) j ∧ i = .int .i64 (j : Int) ∧ m = .int .i64 (T.m : Int) ∧ Cmch R g G' L (k + n - j) wr T.t ∧ Nwr w G G' ∧ Only (cset g G B) w wr) (fun _ _ _ i _ => n - (intOf i).toNat)
  case atStart => exact ⟨0, _, G, Nat.zero_le _, rfl, rfl, rfl, HM.out, Nwr.refl _ _, Only.refl _ _⟩
  case round =>
    obtain ⟨j, T, G', hj, hT, rfl, rfl, hM, hN, hO⟩ := hrel
    have tok := HT.out j hj
    rw [← hT] at tok
    have t4 := tok.2.1
    have t5 := tok.2.2.1
    have HO := Lib.hid hO
    have HN := Lib.hid hN
    have HT0 := Lib.hid hT
    by_cases hlt : j < n
    · have hpow : 2 ^ (j + 1) ≤ 2 ^ n := Nat.pow_le_pow_right (by omega) hlt
      have h256 := pow8 hn8
      have hbit := bitOf_le V j
      have hil : T.m < 2 ^ n := by omega
      have hoff := HB.out.grow hN (fun i hi => HZ.out.old HM.out.row hi)
      have K := cw_bit (k := k + n - (j + 1)) (a := a + T.m) (i := o + T.m) (bit := bitOf V j) HZ.out hoff (HAD.out T.m hil) (by have := HLL.out; omega) (by rw [show k + n - (j + 1) + 1 = k + n - j by omega]; exact hM) hbit
      have hm1 : (T.m : Int) < (len : Int) := by omega
      have hm0 : (0 : Int) ≤ (T.m : Int) := by omega
      have hst : tgStep encM a j (want (V : Int) j) T = revG encM t a (V : Int) (j + 1) := by rw [HT0.out]; rfl
      rw [want_nat] at hst
      have HST := Lib.hid hst
      have hsm : (tgStep encM a j ((bitOf V j : Nat) : Int) T).m = 2 * T.m + bitOf V j := rfl
      have hsd : (tgStep encM a j ((bitOf V j : Nat) : Int) T).t = (bitP encM T.t (a + T.m) ((bitOf V j : Nat) : Int)).2 := rfl
      rw [← hsd] at K
      have K := Lib.hid K
      have eb := bit_and V j HV.out
      have hmin : min j 32 = j := by omega
      have hk0 : (0 : Int) ≤ (j : Int) := by omega
      have HSZ := Lib.hid hO.size
      have hlt' : (j : Int) < (n : Int) := by omega
      have hm5 : T.m < 512 := by omega
      have ej : IntKind.i64.wrap ((j : Int) + 1) = (j : Int) + 1 := IntWalk.i64_in _ (by omega)
      have HSM := Lib.hid hsm
      generalize bitOf V j = u at *
      have e2 : IntKind.i64.wrap (2 * (T.m : Int)) = 2 * (T.m : Int) := IntWalk.i64_in _ (by omega)
      have e4 : IntKind.i64.wrap (2 * (T.m : Int) + (u : Int)) = ((2 * T.m + u : Nat) : Int) := by rw [show 2 * (T.m : Int) + (u : Int) = ((2 * T.m + u : Nat) : Int) by omega]; exact IntWalk.i64_in _ (by omega)
      have e5 : IntKind.i64.wrap (u : Int) = (u : Int) := IntWalk.i64_in _ (by omega)
      clear hM hN hO hT tok t4 t5 hpow h256 hbit hil hsm hsd hoff hst HT  hm5
      generalize tgStep encM a j (u : Int) T = T' at *
      generalize T.m = y at *
      go_wp2_with fail
      refine K.out.mono ?_
      rintro x w1 ⟨rfl, G2, hM1, hN1, hO1⟩
      have HM1 := Lib.hid hM1
      have HN1 := Lib.hid (HN.out.trans hN1 HSZ.out)
      have HO1 := Lib.hid (cset_trans HO.out HN.out hO1)
      clear hM1 hN1 hO1 HO HN K
      go_wp2_with fail
      go_roundw
      case rel =>
        exact ⟨j + 1, T', G2, by omega, HST.out, by go_num, by rw [HSM.out]; go_num, HM1.out, HN1.out, HO1.out⟩
      case measure => simp [intOf]; omega
    · obtain rfl : j = n := by omega
      rw [show k + j - j = k by omega] at hM
      have HM2 := Lib.hid hM
      clear hM hN hO tok t4 t5 HT hT
      generalize T.m = y at *
      go_wp2_with fail
      first | go_end0 | refine bodyPost_ret (results_none rfl _ _ _) rfl ?_
      have := HM2.out
      rw [HT0.out] at this
      exact ⟨rfl, G', this, HN.out, HO.out⟩

end
end Go.Proofs.Ytjganponepafpaa

/-
  The program's probabilities of packets: where the one with the document's number lies, behind the first.
-/
namespace Go.Proofs.Ytjganponepafpaa
open Go.RowKit

/-- where the probability with the document's number lies -/
def sg (a : Nat) : Nat := if a < 192 then a else if a < 240 then a + 192 else if a < 432 then a - 48 else if a < 688 then a + 1159 else a - 256
theorem sg_lt {a : Nat} (h : a < 1847) : sg a < 1847 := by unfold sg; repeat' split
                                                           all_goals omega
theorem sg_inj {a b : Nat} (ha : a < 1847) (hb : b < 1847) (h : sg a = sg b) : a = b := by
  unfold sg at h
  repeat' split at h
  all_goals omega
theorem sg_low {a : Nat} (h : a < 192) : sg a = a := by unfold sg; rw [if_pos h]
theorem sg_rep {a : Nat} (h : 192 ≤ a) (h1 : a < 240) : sg a = a + 192 := by unfold sg; rw [if_neg (by omega), if_pos h1]
theorem sg_long {a : Nat} (h : 240 ≤ a) (h1 : a < 432) : sg a = a - 48 := by unfold sg; rw [if_neg (by omega), if_neg (by omega), if_pos h1]
theorem sg_slot {a : Nat} (h : 432 ≤ a) (h1 : a < 688) : sg a = a + 1159 := by unfold sg; rw [if_neg (by omega), if_neg (by omega), if_neg (by omega), if_pos h1]
theorem sg_rest {a : Nat} (h : 688 ≤ a) : sg a = a - 256 := by unfold sg; rw [if_neg (by omega), if_neg (by omega), if_neg (by omega), if_neg (by omega)]

/-- all probabilities but literals' lie in the block g, from o0 on -/
def Lay (ad : Nat → Nat × Nat) (g o0 : Nat) : Prop := ∀ a, a < 1847 → ad a = (g, o0 + sg a)
section
variable {ad : Nat → Nat × Nat} {g o0 a i : Nat}
theorem Lay.low (h : Lay ad g o0) (h0 : a < 192) (hi : i = o0 + a) : ad a = (g, i) := by rw [h a (by omega), sg_low h0, hi]
theorem Lay.rep (h : Lay ad g o0) (h0 : 192 ≤ a) (h1 : a < 240) (hi : i = o0 + (a + 192)) : ad a = (g, i) := by rw [h a (by omega), sg_rep h0 h1, hi]
theorem Lay.long (h : Lay ad g o0) (h0 : 240 ≤ a) (h1 : a < 432) (hi : i = o0 + (a - 48)) : ad a = (g, i) := by rw [h a (by omega), sg_long h0 h1, hi]
theorem Lay.slot (h : Lay ad g o0) (h0 : 432 ≤ a) (h1 : a < 688) (hi : i = o0 + (a + 1159)) : ad a = (g, i) := by rw [h a (by omega), sg_slot h0 h1, hi]
theorem Lay.rest (h : Lay ad g o0) (h0 : 688 ≤ a) (h1 : a < 1847) (hi : i = o0 + (a - 256)) : ad a = (g, i) := by rw [h a h1, sg_rest h0, hi]
end
end Go.Proofs.Ytjganponepafpaa
