/-
  PcNums, LzPure: put together.
-/
import Derived.Test.YtdhhibfppcpieaaQ03
import Derived.LoopTactic
import Derived.Test.YtdhhibfppcpieaaQ02
set_option linter.unusedVariables false
set_option linter.unusedSimpArgs false
/-
  The program's coder codes numbers straight.
-/
namespace Go.Proofs.Ytdhhibfppcpieaa
open Go.RowKit

theorem ofInt_u32' (a : Nat) (h : a < 4294967296) : (BitVec.ofInt 32 (a : Int)).toNat = a := by simp; omega
/-- the bit that the coder reckons -/
theorem bit_and (V k : Nat) (hV : V < 4294967296) : bits .and .u32 ((V : Int) / 2 ^ k) 1 = ((bitOf V k : Nat) : Int) := by
  unfold bitOf
  obtain ⟨y, hy⟩ : ∃ y, y = V / 2 ^ k := ⟨_, rfl⟩
  have h : (V : Int) / ((2 ^ k : Nat) : Int) = (y : Int) := by rw [hy]; exact (Int.natCast_ediv V (2 ^ k)).symm
  have hyl : y ≤ V := by rw [hy]; exact Nat.div_le_self _ _
  rw [cast_pow2, h, ← hy]
  show IntKind.u32.wrap ((BitVec.ofInt 32 (y : Int) &&& BitVec.ofInt 32 ((1 : Nat) : Int)).toNat : Int) = _
  rw [BitVec.toNat_and, ofInt_u32' _ (by omega), ofInt_u32' _ (by omega), Nat.and_one_is_mod]
  exact u32_of _ (by omega) (by omega)

/-- low is more, the range less, of a bit told straight -/
theorem Pw.half {w : World} {g : Nat} {G : Option Nat} {c : Co} {r lo' s n : Nat} (h : Pw w g G c r) :
    Pw ((w.setCell ⟨g, 1, none⟩ (.int .u32 (s : Int))).drewN n |>.setCell ⟨g, 0, none⟩ (.int .u64 (lo' : Int))) g G ⟨c.gs, c.wt, c.fu, lo'⟩ s := by
  obtain ⟨A, m, hB, hOw, hG, hne⟩ := h
  have h1 : Only (fun j => j = g) w ((w.setCell ⟨g, 1, none⟩ (.int .u32 (s : Int))).drewN n |>.setCell ⟨g, 0, none⟩ (.int .u64 (lo' : Int))) :=
    ((((Only.refl (fun j => j = g) w).setCell (p := ⟨g, 1, none⟩) (.inl rfl) _).drewN n).setCell (p := ⟨g, 0, none⟩) (.inl rfl) _)
  exact ⟨A, m, ((hB.put 1 _).drewN n).put 0 _, own_only' hOw h1 (fun i hi e => hne (hG.symm.trans (e ▸ hi))), hG, hne⟩

section
variable {w : World} {g b i p pc : Nat} {G : Option Nat} {c : Co} {r : Nat} {e : En} {ps : List Nat}

set_option maxHeartbeats 4000000 in
theorem pstraight_any {n V : Nat} (h : Pn w g G e) (he : EnOk e) (hn : n ≤ 32) (hV : V < 4294967296) (hlen : e.l ≤ 999999900) :
    Calls Try.prog 88 #[.pointer (some ⟨g, 0, none⟩), .int .i64 (n : Int), .int .u32 (V : Int)] w (PnPost w g G (.tuple #[]) (strE e V n n)) := by
  have HP := Lib.hid h
  have HE := Lib.hid he
  have HLEN := Lib.hid hlen
  have HV := Lib.hid hV
  have en1 : IntKind.i64.wrap ((n : Int) - 1) = (n : Int) - 1 := IntWalk.i64_in _ (by omega)
  clear h he hlen hV
  go_enter Try.func88, Try.ntmps88
  go_wp2_with fail
  go_loopw [6, 8] (fun _ i wr => ∃ (j : Nat) (G' : Option Nat), j ≤ n ∧ i = .int .i64 (j : Int) ∧ Pn wr g G' (strE e V n j) ∧ Nwr w G G' ∧ Only (pset g G) w wr) (fun _ i _ => n - (intOf i).toNat)
  case atStart => exact ⟨0, G, Nat.zero_le _, rfl, HP.out, Nwr.refl _ _, Only.refl _ _⟩
  case round =>
    clear HP
    obtain ⟨j, G', hj, rfl, hP, hN, hO⟩ := hrel
    have HN := Lib.hid hN
    have HO := Lib.hid hO
    clear hN hO
    by_cases hlt : j < n
    · have hok := strE_ok HE.out V n j
      have hll := strE_len e V n j
      obtain ⟨k, hk⟩ : ∃ k, k = n - 1 - j := ⟨_, rfl⟩
      have hnext : strE e V n (j + 1) = (strE e V n j).one (bitOf V k) := by rw [hk]; rfl
      have hL := HLEN.out
      have hEl : (strE e V n j).l ≤ 999999950 := by omega
      generalize strE e V n j = E at *
      obtain ⟨c, hPw, hc⟩ := hP
      obtain ⟨c1, z1⟩ := hPw.cell1
      have hr0 := hok.1
      have hr1 := hok.2.1
      obtain ⟨s, hs⟩ : ∃ s, s = E.r / 2 := ⟨_, rfl⟩
      have e1 : (E.r : Int) / 2 = (s : Int) := by omega
      have e2 : IntKind.u32.wrap ((E.r : Int) / 2) = (s : Int) := by rw [e1]; exact u32_of _ (by omega) (by omega)
      have e3 : IntKind.i64.wrap ((n : Int) - 1 - (j : Int)) = (k : Int) := by rw [show (n : Int) - 1 - (j : Int) = (k : Int) by omega]; exact IntWalk.i64_in _ (by omega)
      have hk0 : (0 : Int) ≤ (k : Int) := by omega
      have ej : IntKind.i64.wrap ((j : Int) + 1) = (j : Int) + 1 := IntWalk.i64_in _ (by omega)
      have hmin : min k 32 = k := by omega
      have hlt' : (j : Int) < (n : Int) := by omega
      have HS := Lib.hid hs.symm
      have HF := Lib.hid (show 65536 ≤ s ∧ s + s ≤ E.r ∧ E.l ≤ 999999950 by omega)
      clear hs hk hr0 hr1 hEl hL hll
      have eb := bit_and V k HV.out
      have e5 : (s : Int) % 4294967296 = (s : Int) := by have := HF.out; have := hok.2.1; omega
      have hbit := bitOf_le V k
      by_cases hb : bitOf V k = 0
      · rw [hb] at eb hnext
        have eb0 : bits .and .u32 ((V : Int) / 2 ^ k) 1 = 0 := eb
        have K := Lib.hid (evenOut_any (hPw.span (R := s)) (hc.mono (r' := s) (by have := HF.out; omega) (by have := HF.out; omega)) HF.out.1 (by have := HF.out; omega))
        have HNX := Lib.hid (show strE e V n (j + 1) = En.even ⟨E.n, E.l, s⟩ by rw [hnext]; unfold En.one; rw [if_pos rfl, HS.out])
        have HO1 := Lib.hid ((Only.refl (pset g G') wr).setCell (p := ⟨g, 1, none⟩) (.inl (.inl rfl)) (.int .u32 (s : Int)))
        have HSZ := Lib.hid (show (wr.setCell ⟨g, 1, none⟩ (.int .u32 (s : Int))).heap.size = wr.heap.size by simp [World.setCell])
        clear hPw hc hok hb eb hbit hnext
        go_wp2_with fail
        refine K.out.mono ?_
        rintro x w3 ⟨rfl, G2, hP2, hN2, hO2⟩
        have HP2 := Lib.hid hP2
        have HN2 := Lib.hid (HN.out.trans (fun i hi => (hN2 i hi).imp id (fun h => by rw [HSZ.out] at h; exact h)) HO.out.size)
        have HO2 := Lib.hid (pset_trans HO.out HN.out (HO1.out.trans hO2))
        clear hP2 hN2 hO2 HN HO K HO1 HSZ
        go_wp2_with fail
        go_roundw
        case rel => exact ⟨j + 1, G2, by omega, by go_num, by rw [HNX.out]; exact HP2.out, HN2.out, HO2.out⟩
        case measure => simp [intOf]; omega
      · have hb1 : bitOf V k = 1 := by omega
        rw [hb1] at eb hnext
        have eb0 : bits .and .u32 ((V : Int) / 2 ^ k) 1 = 1 := eb
        obtain ⟨c0, z0⟩ : wr.cell? ⟨g, 0, none⟩ = some (.int .u64 (c.lo : Int)) ∧ wr.frozen? ⟨g, 0, none⟩ = false := by obtain ⟨A, m, hB, _⟩ := hPw; exact ⟨hB.cell 0, hB.free 0⟩
        have hlo := hc.low
        have hsl : s < 4294967296 := by have := HF.out; have := hok.2.1; omega
        have e7 : IntKind.u64.wrap (s : Int) = (s : Int) := u64_in _ (by omega)
        have e8 : IntKind.u64.wrap ((c.lo : Int) + (s : Int)) = ((c.lo + s : Nat) : Int) := by rw [← Int.natCast_add]; exact u64_in _ (by omega)
        have K := Lib.hid (fun m => evenOut_any (Pw.half (lo' := c.lo + s) (s := s) (n := m) hPw) (hc.plus (z := s) (r' := s) (by have := HF.out; omega) (by have := HF.out; omega)) HF.out.1 (by have := HF.out; omega))
        have HNX := Lib.hid (show strE e V n (j + 1) = En.even ⟨E.n + s, E.l, s⟩ by rw [hnext]; unfold En.one; rw [if_neg (by omega), HS.out])
        have HO1 := Lib.hid (fun m => (((Only.refl (pset g G') wr).setCell (p := ⟨g, 1, none⟩) (.inl (.inl rfl)) (.int .u32 (s : Int))).drewN m).setCell (p := ⟨g, 0, none⟩) (.inl (.inl rfl)) (.int .u64 ((c.lo + s : Nat) : Int)))
        have HSZ := Lib.hid (fun m => show ((wr.setCell ⟨g, 1, none⟩ (.int .u32 (s : Int))).drewN m |>.setCell ⟨g, 0, none⟩ (.int .u64 ((c.lo + s : Nat) : Int))).heap.size = wr.heap.size by simp [World.setCell, World.drewN])
        clear hPw hc hok hb hb1 eb hbit hnext hlo hsl
        generalize c.lo + s = lo1 at *
        go_wp2_with fail
        go_region
        all_goals go_wp2_with fail
        refine (K.out 1).mono ?_
        rintro x w3 ⟨rfl, G2, hP2, hN2, hO2⟩
        have HP2 := Lib.hid hP2
        have HN2 := Lib.hid (HN.out.trans (fun i hi => (hN2 i hi).imp id (fun h => by rw [HSZ.out] at h; exact h)) HO.out.size)
        have HO2 := Lib.hid (pset_trans HO.out HN.out ((HO1.out 1).trans hO2))
        clear hP2 hN2 hO2 HN HO K HO1 HSZ
        go_wp2_with fail
        go_roundw
        case rel => exact ⟨j + 1, G2, by omega, by go_num, by rw [HNX.out]; exact HP2.out, HN2.out, HO2.out⟩
        case measure => simp [intOf]; omega
    · obtain rfl : j = n := by omega
      have HP := Lib.hid hP
      clear hP
      go_wp2_with fail
      first | go_end0 | refine bodyPost_ret (results_none rfl _ _ _) rfl ?_
      exact ⟨rfl, G', HP.out, HN.out, HO.out⟩
end
end Go.Proofs.Ytdhhibfppcpieaa

/-
  The packets of LZMA as numbers: one walk through the probabilities, over a machine that tells bits, or codes them.
-/
namespace Go.Proofs.Ytdhhibfppcpieaa

/-- What tells a bit with a probability, or codes the wanted one: the bit, the probability then, the machine; and so many bits straight. -/
structure Mach (σ : Type) where
  bit : σ → Nat → Int → Nat × Nat × σ
  str : σ → Nat → Nat → Nat × σ
  bad : σ → Bool
  enc : Bool
def decM : Mach Dc := ⟨fun d p _ => bitD d p, fun d n _ => straightD n d, fun d => d.isNone, false⟩
def encM : Mach En := ⟨fun e p b => (b.toNat, upOf p b.toNat, e.bit p b.toNat), fun e n v => (v, strE e v n n), fun _ => false, true⟩

/-- probabilities, and a machine -/
structure Pm (σ : Type) where
  ps : List Nat
  x : σ
/-- what is wanted may be -/
def Mach.may {σ : Type} (M : Mach σ) (w : Int) : Prop := M.enc = true → w = 0 ∨ w = 1
def Mach.mayN {σ : Type} (M : Mach σ) (v : Int) : Prop := M.enc = true → 0 ≤ v
/-- bit number i of what is wanted -/
def want (v : Int) (i : Nat) : Int := (v.tdiv ((2 ^ i : Nat) : Int)).tmod 2
theorem want_nat (v i : Nat) : want (v : Int) i = ((bitOf v i : Nat) : Int) := by
  unfold want bitOf
  rw [Int.tdiv_eq_ediv_of_nonneg (by omega), ← Int.natCast_ediv]
  generalize v / 2 ^ i = y
  rw [Int.tmod_eq_emod_of_nonneg (by omega)]
  omega
theorem want_may {σ : Type} {M : Mach σ} {v : Int} (h : M.mayN v) (i : Nat) : M.may (want v i) := by
  intro he
  obtain ⟨n, rfl⟩ := Int.eq_ofNat_of_zero_le (h he)
  rw [want_nat]
  have := bitOf_le n i
  omega

/-- A machine that keeps its bounds; ok k: k bits more may be asked for. -/
structure MachOk {σ : Type} (M : Mach σ) (ok : Nat → σ → Prop) : Prop where
  mono : ∀ {x k k'}, ok k x → k' ≤ k → ok k' x
  bit : ∀ {x k p w}, ok (k + 1) x → POk p → M.may w → (M.bit x p w).1 ≤ 1 ∧ POk (M.bit x p w).2.1 ∧ ok k (M.bit x p w).2.2
  tell : ∀ {x p w}, M.enc = true → (M.bit x p w).1 = w.toNat
  str : ∀ {x k n v}, ok (k + 1) x → n ≤ 32 → (M.enc = true → v < 2 ^ n) → (M.str x n v).1 < 2 ^ n ∧ ok k (M.str x n v).2
def okD : Nat → Dc → Prop := fun _ d => DcOk d
def okE : Nat → En → Prop := fun k e => EnOk e ∧ e.l + 32 * k ≤ 900000000
theorem encM_ok : MachOk encM okE := by
  refine ⟨fun {x k k'} h hk => ⟨h.1, by have := h.2; omega⟩, fun {x k p w} hx hp hw => ?_, fun _ => rfl, fun {x k n v} hx hn hv => ⟨hv rfl, strE_ok hx.1 v n n, ?_⟩⟩
  · have hb : w.toNat ≤ 1 := by rcases hw rfl with h | h <;> omega
    refine ⟨hb, pOk_upOf hp, bit_ok hx.1 hp, ?_⟩
    have := bit_len x p w.toNat
    have := hx.2
    show (x.bit p w.toNat).l + _ ≤ _
    omega
  · have := strE_len x v n n
    have := hx.2
    show (strE x v n n).l + _ ≤ _
    omega

/-- probabilities in their bounds, so many, and a machine that may be asked for k bits -/
structure PmOk {σ : Type} (ok : Nat → σ → Prop) (L k : Nat) (t : Pm σ) : Prop where
  ps : PsOk t.ps
  len : t.ps.length = L
  x : ok k t.x

section
variable {σ : Type} (M : Mach σ)

def bitP (t : Pm σ) (a : Nat) (w : Int) : Nat × Pm σ := ((M.bit t.x (t.ps.getD a 0) w).1, ⟨t.ps.set a (M.bit t.x (t.ps.getD a 0) w).2.1, (M.bit t.x (t.ps.getD a 0) w).2.2⟩)

theorem bitP_ok {M : Mach σ} {ok : Nat → σ → Prop} (h : MachOk M ok) {L k a : Nat} {w : Int} {t : Pm σ} (ht : PmOk ok L (k + 1) t) (ha : a < L) (hw : M.may w) : (bitP M t a w).1 ≤ 1 ∧ PmOk ok L k (bitP M t a w).2 := by
  obtain ⟨h1, h2, h3⟩ := h.bit ht.x (getD_ok ht.ps (show a < t.ps.length by rw [ht.len]; exact ha)) hw
  exact ⟨h1, psOk_set ht.ps _ h2, by show (t.ps.set _ _).length = L; rw [List.length_set]; exact ht.len, h3⟩
theorem PmOk.mono {M : Mach σ} {ok : Nat → σ → Prop} (h : MachOk M ok) {L k k' : Nat} {t : Pm σ} (ht : PmOk ok L k t) (hk : k' ≤ k) : PmOk ok L k' t := ⟨ht.ps, ht.len, h.mono ht.x hk⟩

/-- a number of bits on its way: m leads through the tree, o is the number with the least bit first -/
structure Tg (σ : Type) where
  m : Nat
  o : Nat
  t : Pm σ
def tgStep (a i : Nat) (w : Int) (s : Tg σ) : Tg σ := ⟨2 * s.m + (bitP M s.t (a + s.m) w).1, s.o + (bitP M s.t (a + s.m) w).1 * 2 ^ i, (bitP M s.t (a + s.m) w).2⟩
/-- behind the first j of n bits, the greatest first -/
def treeG (t : Pm σ) (a n : Nat) (v : Int) : Nat → Tg σ
  | 0 => ⟨1, 0, t⟩
  | j + 1 => tgStep M a j (want v (n - 1 - j)) (treeG t a n v j)
def treeP (t : Pm σ) (a n : Nat) (v : Int) : Nat × Pm σ := ((treeG M t a n v n).m - 2 ^ n, (treeG M t a n v n).t)
theorem tgStep_ok {M : Mach σ} {ok : Nat → σ → Prop} (h : MachOk M ok) {L k a i : Nat} {w : Int} {s : Tg σ} (ht : PmOk ok L (k + 1) s.t) (ha : a + s.m < L) (hw : M.may w) :
    PmOk ok L k (tgStep M a i w s).t ∧ 2 * s.m ≤ (tgStep M a i w s).m ∧ (tgStep M a i w s).m ≤ 2 * s.m + 1 ∧ (tgStep M a i w s).o ≤ s.o + 2 ^ i := by
  obtain ⟨h1, h2⟩ := bitP_ok h ht ha hw
  refine ⟨h2, Nat.le_add_right _ _, by show 2 * s.m + _ ≤ _; omega, ?_⟩
  show s.o + (bitP M s.t (a + s.m) w).1 * 2 ^ i ≤ _
  have := Nat.mul_le_mul_right (2 ^ i) h1
  omega
theorem treeG_ok {M : Mach σ} {ok : Nat → σ → Prop} (h : MachOk M ok) {L k a n : Nat} {v : Int} {t : Pm σ} (ht : PmOk ok L (k + n) t) (ha : a + 2 ^ n ≤ L) (hv : M.mayN v) :
    ∀ j, j ≤ n → PmOk ok L (k + n - j) (treeG M t a n v j).t ∧ 2 ^ j ≤ (treeG M t a n v j).m ∧ (treeG M t a n v j).m < 2 ^ (j + 1)
  | 0, _ => ⟨ht, Nat.le_refl _, by show 1 < 2 ^ 1; decide⟩
  | j + 1, hj => by
    obtain ⟨h1, h2, h3⟩ := treeG_ok h ht ha hv j (by omega)
    have hp : 2 ^ (j + 1) ≤ 2 ^ n := Nat.pow_le_pow_right (by omega) hj
    obtain ⟨k1, k2, k3, _⟩ := tgStep_ok (i := j) h (k := k + n - (j + 1)) (a := a) (w := want v (n - 1 - j)) (by rw [show k + n - (j + 1) + 1 = k + n - j by omega]; exact h1) (by omega) (want_may hv _)
    refine ⟨k1, ?_, ?_⟩
    · show 2 ^ (j + 1) ≤ (tgStep M a j _ _).m
      rw [Nat.pow_succ]; omega
    · show (tgStep M a j _ _).m < 2 ^ (j + 1 + 1)
      rw [Nat.pow_succ 2 (j + 1)]; omega
theorem treeP_ok {M : Mach σ} {ok : Nat → σ → Prop} (h : MachOk M ok) {L k a n : Nat} {v : Int} {t : Pm σ} (ht : PmOk ok L (k + n) t) (ha : a + 2 ^ n ≤ L) (hv : M.mayN v) : (treeP M t a n v).1 < 2 ^ n ∧ PmOk ok L k (treeP M t a n v).2 := by
  obtain ⟨h1, h2, h3⟩ := treeG_ok h ht ha hv n (Nat.le_refl _)
  rw [show k + n - n = k by omega] at h1
  refine ⟨?_, h1⟩
  show (treeG M t a n v n).m - 2 ^ n < 2 ^ n
  rw [Nat.pow_succ] at h3
  omega

/-- the least first -/
def revG (t : Pm σ) (a : Nat) (v : Int) : Nat → Tg σ
  | 0 => ⟨1, 0, t⟩
  | j + 1 => tgStep M a j (want v j) (revG t a v j)
def revP (t : Pm σ) (a n : Nat) (v : Int) : Nat × Pm σ := ((revG M t a v n).o, (revG M t a v n).t)

theorem revG_ok {M : Mach σ} {ok : Nat → σ → Prop} (h : MachOk M ok) {L k a n : Nat} {v : Int} {t : Pm σ} (ht : PmOk ok L (k + n) t) (ha : a + 2 ^ n ≤ L) (hv : M.mayN v) :
    ∀ j, j ≤ n → PmOk ok L (k + n - j) (revG M t a v j).t ∧ 2 ^ j ≤ (revG M t a v j).m ∧ (revG M t a v j).m < 2 ^ (j + 1) ∧ (revG M t a v j).o < 2 ^ j
  | 0, _ => ⟨ht, Nat.le_refl _, by show 1 < 2 ^ 1; decide, by show 0 < 1; decide⟩
  | j + 1, hj => by
    obtain ⟨h1, h2, h3, h4⟩ := revG_ok h ht ha hv j (by omega)
    have hp : 2 ^ (j + 1) ≤ 2 ^ n := Nat.pow_le_pow_right (by omega) hj
    obtain ⟨k1, k2, k3, k4⟩ := tgStep_ok (i := j) h (k := k + n - (j + 1)) (a := a) (w := want v j) (by rw [show k + n - (j + 1) + 1 = k + n - j by omega]; exact h1) (by omega) (want_may hv _)
    refine ⟨k1, ?_, ?_, ?_⟩
    · show 2 ^ (j + 1) ≤ (tgStep M a j _ _).m
      rw [Nat.pow_succ]; omega
    · show (tgStep M a j _ _).m < 2 ^ (j + 1 + 1)
      rw [Nat.pow_succ 2 (j + 1)]; omega
    · show (tgStep M a j _ _).o < 2 ^ (j + 1)
      rw [Nat.pow_succ]; omega
theorem revP_ok {M : Mach σ} {ok : Nat → σ → Prop} (h : MachOk M ok) {L k a n : Nat} {v : Int} {t : Pm σ} (ht : PmOk ok L (k + n) t) (ha : a + 2 ^ n ≤ L) (hv : M.mayN v) : (revP M t a n v).1 < 2 ^ n ∧ PmOk ok L k (revP M t a n v).2 := by
  obtain ⟨h1, _, _, h4⟩ := revG_ok h ht ha hv n (Nat.le_refl _)
  rw [show k + n - n = k by omega] at h1
  exact ⟨h4, h1⟩

/-- what is told, and where, but for probabilities and machine -/
structure Lzs where
  lc : Nat
  lp : Nat
  pb : Nat
  dict : Nat
  out : List UInt8
  st : Nat
  r0 : Nat
  r1 : Nat
  r2 : Nat
  r3 : Nat
  ended : Bool
  bad : Bool

/-- the byte at a distance -/
def Lzs.has (z : Lzs) (d : Nat) : Bool := decide (d < z.out.length ∧ d < z.dict)
def Lzs.back (z : Lzs) (d : Nat) : UInt8 := if z.has d = true then z.out.getD (z.out.length - 1 - d) 0 else 0

/-- the places of the probabilities -/
def litAt (z : Lzs) : Nat := 1847 + 768 * (z.out.length % 2 ^ z.lp * 2 ^ z.lc + (z.back 0).toNat / 2 ^ (8 - z.lc))
def litSt (s : Nat) : Nat := if s < 4 then 0 else if s < 10 then s - 3 else s - 6

/-- a literal on its way: whether its bits still are those of the other byte -/
structure Lg (σ : Type) where
  m : Nat
  same : Bool
  t : Pm σ
def lgStep (a : Nat) (y w : Int) (s : Lg σ) : Lg σ :=
  if s.same = true then
    ⟨2 * s.m + (bitP M s.t (a + 256 * (1 + y.toNat) + s.m) w).1, decide ((bitP M s.t (a + 256 * (1 + y.toNat) + s.m) w).1 = y.toNat), (bitP M s.t (a + 256 * (1 + y.toNat) + s.m) w).2⟩
  else ⟨2 * s.m + (bitP M s.t (a + s.m) w).1, false, (bitP M s.t (a + s.m) w).2⟩
def litG (t : Pm σ) (a : Nat) (other v : UInt8) (same : Bool) : Nat → Lg σ
  | 0 => ⟨1, same, t⟩
  | j + 1 => lgStep M a (want (other.toNat : Int) (7 - j)) (want (v.toNat : Int) (7 - j)) (litG t a other v same j)
def litP (z : Lzs) (t : Pm σ) (v : UInt8) : Nat × Pm σ :=
  ((litG M t (litAt z) (z.back z.r0) v (decide (7 ≤ z.st)) 8).m, (litG M t (litAt z) (z.back z.r0) v (decide (7 ≤ z.st)) 8).t)

/-- a length, by the lengths at a place: behind the second bit, behind the first, all -/
def lenB (b : Nat × Pm σ) (a s : Nat) (v : Int) : Nat × Pm σ :=
  if b.1 = 0 then (8 + (treeP M b.2 (a + 130 + 8 * s) 3 (v - 8)).1, (treeP M b.2 (a + 130 + 8 * s) 3 (v - 8)).2)
  else (16 + (treeP M b.2 (a + 258) 8 (v - 16)).1, (treeP M b.2 (a + 258) 8 (v - 16)).2)
def lenA (b : Nat × Pm σ) (a s : Nat) (v : Int) : Nat × Pm σ :=
  if b.1 = 0 then treeP M b.2 (a + 2 + 8 * s) 3 v else lenB M (bitP M b.2 (a + 1) (min (v.tdiv 16) 1)) a s v
def lenP (t : Pm σ) (a s : Nat) (v : Int) : Nat × Pm σ := lenA M (bitP M t a (min (v.tdiv 8) 1)) a s v

theorem may_min {M : Mach σ} {v c : Int} (hc : 1 ≤ c) (h : M.mayN v) : M.may (min (v.tdiv c) 1) := by
  intro he
  have h0 := h he
  rw [Int.tdiv_eq_ediv_of_nonneg h0]
  have := Int.ediv_nonneg h0 (show 0 ≤ c by omega)
  omega
/-- where the bit that was wanted is told, what is left may be wanted -/
theorem may_less {M : Mach σ} {ok : Nat → σ → Prop} (h : MachOk M ok) {t : Pm σ} {a : Nat} {v c : Int} (hc : 1 ≤ c) (hv : M.mayN v) (hb : ¬ (bitP M t a (min (v.tdiv c) 1)).1 = 0) : M.mayN (v - c) := by
  intro he
  have h0 := hv he
  have ht : (bitP M t a (min (v.tdiv c) 1)).1 = (min (v.tdiv c) 1).toNat := h.tell he
  rw [ht, Int.tdiv_eq_ediv_of_nonneg h0] at hb
  have h1 : 1 ≤ v / c := by omega
  have h2 := (Int.le_ediv_iff_mul_le (show 0 < c by omega)).1 h1
  omega
theorem lenP_ok {M : Mach σ} {ok : Nat → σ → Prop} (h : MachOk M ok) {L k a s : Nat} {v : Int} {t : Pm σ} (ht : PmOk ok L (k + 10) t) (ha : a + 514 ≤ L) (hs : s ≤ 15) (hv : M.mayN v) : (lenP M t a s v).1 < 272 ∧ PmOk ok L k (lenP M t a s v).2 := by
  obtain ⟨b1, p1⟩ := bitP_ok h (k := k + 9) ht (show a < L by omega) (may_min (c := 8) (by decide) hv)
  unfold lenP lenA
  split
  · obtain ⟨h1, h2⟩ := treeP_ok h (k := k) (n := 3) (a := a + 2 + 8 * s) (p1.mono h (show k + 3 ≤ k + 9 by omega)) (by show a + 2 + 8 * s + 8 ≤ L; omega) hv
    have h1 : _ < 8 := h1
    exact ⟨by omega, h2⟩
  · rename_i hb
    have hv8 := may_less h (by decide) hv hb
    obtain ⟨b2, p2⟩ := bitP_ok h (k := k + 8) p1 (show a + 1 < L by omega) (may_min (c := 16) (by decide) hv)
    unfold lenB
    split
    · obtain ⟨h1, h2⟩ := treeP_ok h (k := k) (n := 3) (a := a + 130 + 8 * s) (p2.mono h (show k + 3 ≤ k + 8 by omega)) (by show a + 130 + 8 * s + 8 ≤ L; omega) hv8
      have h1 : _ < 8 := h1
      exact ⟨by show 8 + _ < 272; omega, h2⟩
    · rename_i hb2
      have hv16 := may_less h (by decide) hv hb2
      obtain ⟨h1, h2⟩ := treeP_ok h (k := k) (n := 8) (a := a + 258) p2 (by show a + 258 + 256 ≤ L; omega) hv16
      have h1 : _ < 256 := h1
      exact ⟨by show 16 + _ < 272; omega, h2⟩

/-- the slot of a distance: what is left of it, and how often it was halved -/
def slotGo : Nat → Nat × Nat → Nat × Nat
  | 0, s => s
  | f + 1, s => if 4 ≤ s.1 then slotGo f (s.1 / 2, s.2 + 1) else s
def slotOf (d : Nat) : Nat := 2 * (slotGo 32 (d, 0)).2 + (slotGo 32 (d, 0)).1

/-- a distance: behind the straight bits, behind the slot, all -/
def distC (b : Nat × σ) (ps : List Nat) (base v : Nat) : Nat × Pm σ :=
  (base + 16 * b.1 + (revP M ⟨ps, b.2⟩ 803 4 ((v % 16 : Nat) : Int)).1, (revP M ⟨ps, b.2⟩ 803 4 ((v % 16 : Nat) : Int)).2)
def distB (b : Nat × Pm σ) (v : Nat) : Nat × Pm σ :=
  if b.1 < 4 then b
  else if b.1 < 14 then
    ((2 + b.1 % 2) * 2 ^ (b.1 / 2 - 1) + (revP M b.2 (688 + (2 + b.1 % 2) * 2 ^ (b.1 / 2 - 1) - b.1) (b.1 / 2 - 1) ((v : Int) - ((2 + b.1 % 2) * 2 ^ (b.1 / 2 - 1) : Nat))).1,
      (revP M b.2 (688 + (2 + b.1 % 2) * 2 ^ (b.1 / 2 - 1) - b.1) (b.1 / 2 - 1) ((v : Int) - ((2 + b.1 % 2) * 2 ^ (b.1 / 2 - 1) : Nat))).2)
  else distC M (M.str b.2.x (b.1 / 2 - 1 - 4) ((v + 4294967296 - (2 + b.1 % 2) * 2 ^ (b.1 / 2 - 1)) % 4294967296 / 16)) b.2.ps ((2 + b.1 % 2) * 2 ^ (b.1 / 2 - 1)) v
def distP (t : Pm σ) (l v : Nat) : Nat × Pm σ := distB M (treeP M t (432 + 64 * min l 3) 6 (slotOf v : Int)) v

/-- which packet it is, bit by bit from the last one: the kind, whether it is bad, what is left -/
def chI (c : Prop) [Decidable c] : Int := if c then 0 else 1
def kd5 (b : Nat × Pm σ) : Nat × Bool × Pm σ := (if b.1 = 0 then 4 else 5, false, b.2)
def kd4 (b : Nat × Pm σ) (st : Nat) (k : Int) : Nat × Bool × Pm σ := if b.1 = 0 then (3, false, b.2) else kd5 (bitP M b.2 (228 + st) (chI (k = 4)))
def kdL (b : Nat × Pm σ) : Nat × Bool × Pm σ := (if b.1 = 0 then 6 else 2, false, b.2)
def kd3 (b : Nat × Pm σ) (st s : Nat) (k : Int) : Nat × Bool × Pm σ := if b.1 = 0 then kdL (bitP M b.2 (240 + 16 * st + s) (chI (k = 6))) else kd4 M (bitP M b.2 (216 + st) (chI (k = 3))) st k
def kd2 (b : Nat × Pm σ) (empty : Bool) (st s : Nat) (k : Int) : Nat × Bool × Pm σ := if b.1 = 0 then (1, false, b.2) else if empty = true then (6, true, b.2) else kd3 M (bitP M b.2 (204 + st) (chI (k = 2 ∨ k = 6))) st s k
def kd1 (b : Nat × Pm σ) (empty : Bool) (st s : Nat) (k : Int) : Nat × Bool × Pm σ := if b.1 = 0 then (0, false, b.2) else kd2 M (bitP M b.2 (192 + st) (chI (k = 1 ∨ k = 7))) empty st s k
def kindP (t : Pm σ) (empty : Bool) (st s : Nat) (k : Int) : Nat × Bool × Pm σ := kd1 M (bitP M t (16 * st + s) (min k 1)) empty st s k
end
theorem chI_may {σ : Type} {M : Mach σ} (c : Prop) [Decidable c] : M.may (chI c) := fun _ => by unfold chI; split <;> simp
end Go.Proofs.Ytdhhibfppcpieaa
