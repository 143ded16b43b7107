/-
  The program's coder of shares: levelled; a part of a whole, a bit, a share is put.
-/
import Derived.Test.YtkjhdpfomofggaaPwRaise
namespace Go.Proofs.Ytkjhdpfomofggaa
open Go.RowKit

/-- Block g is the program's coder, its bytes at block q; its state is e. -/
def Pe (w : World) (g q : Nat) (e : En) : Prop := ∃ gs lo, Pw w g q gs lo e.r ∧ lo < 4294967296 ∧ be gs * 4294967296 + lo = e.n ∧ gs.length + 4 = e.l
def PePost (w : World) (g q : Nat) (T : En) (x : Ending) (w' : World) : Prop :=
  x = .returned (.tuple #[]) ∧ ∃ q', Pe w' g q' T ∧ (q' = q ∨ w.heap.size ≤ q') ∧ Only (duo g q) w w'

theorem give_num {b lo h m : Nat} (hlo : lo = h * 16777216 + m) : (b * 256 + h) * 4294967296 + m * 256 = (b * 4294967296 + lo) * 256 := by omega

section
variable {w w' : World} {g q : Nat} {e : En}
theorem Pe.lt (h : Pe w g q e) : g < w.heap.size ∧ q < w.heap.size := by obtain ⟨gs, lo, hP, _⟩ := h; exact hP.lt
theorem Pe.ne_ (h : Pe w g q e) : q ≠ g := by obtain ⟨gs, lo, ⟨c, _, _, h⟩, _⟩ := h; exact h
theorem Pe.only {S : Nat → Prop} (h : Pe w g q e) (hb : Only S w w') (hg : ¬ S g) (hq : ¬ S q) : Pe w' g q e := by
  obtain ⟨gs, lo, hP, r⟩ := h
  exact ⟨gs, lo, hP.only hb hg hq, r⟩
theorem Pe.drewN (h : Pe w g q e) (n : Nat) : Pe (w.drewN n) g q e := h
theorem Pe.cell1 (h : Pe w g q e) : w.cell? ⟨g, 1, none⟩ = some (.int .u32 (e.r : Int)) ∧ w.frozen? ⟨g, 1, none⟩ = false := by
  obtain ⟨gs, lo, hP, _⟩ := h
  exact ⟨hP.cells.2.1, hP.cells.2.2.2⟩
theorem Pe.span (h : Pe w g q e) (R : Nat) : Pe (w.setCell ⟨g, 1, none⟩ (.int .u32 (R : Int))) g q ⟨e.n, e.l, R⟩ := by
  obtain ⟨gs, lo, hP, r⟩ := h
  exact ⟨gs, lo, hP.span R, r⟩

theorem egive_any (h : Pe w g q e) (hlen : e.l ≤ 1000000000) :
    Calls Try.prog 39 #[.pointer (some ⟨g, 0, none⟩)] w (PePost w g q ⟨e.n * 256, e.l + 1, e.r⟩) := by
  obtain ⟨gs, lo, hP, hlo, hn, hl⟩ := h
  refine (wgive_any hP hlo (by omega)).mono ?_
  rintro x w' ⟨rfl, q', hP', hq, hO⟩
  refine ⟨rfl, q', ⟨gs ++ [UInt8.ofNat (lo / 16777216)], lo % 16777216 * 256, hP', by omega, ?_, by rw [List.length_append]; show gs.length + 1 + 4 = e.l + 1; omega⟩, hq, hO⟩
  have hx : (UInt8.ofNat (lo / 16777216)).toNat = lo / 16777216 := by simp; omega
  rw [be_snoc, hx]
  show _ = e.n * 256
  rw [← hn]
  exact give_num (by omega)

theorem eraise_any {v : Nat} (h : Pe w g q e) (hv : v < 4294967296) (hfit : e.n + v < 256 ^ e.l) (hlen : e.l ≤ 1000000000) :
    Calls Try.prog 40 #[.pointer (some ⟨g, 0, none⟩), .int .u32 (v : Int)] w fun x w' => x = .returned (.tuple #[]) ∧ Pe w' g q ⟨e.n + v, e.l, e.r⟩ ∧ Only (duo g q) w w' := by
  obtain ⟨gs, lo, hP, hlo, hn, hl⟩ := h
  refine (raise_any hP hlo hv (by rw [hn, hl]; exact hfit) (by omega)).mono ?_
  rintro x w' ⟨rfl, cs, lo', hP', hlo', hn', hl', hO⟩
  exact ⟨rfl, ⟨cs, lo', hP', hlo', by rw [hn', hn], by rw [hl']; exact hl⟩, hO⟩
end

/-- on the way to T -/
def LevRel (w wr : World) (g q : Nat) (T : En) : Prop :=
  ∃ q' e f, Pe wr g q' e ∧ e.evs f = T ∧ 16777216 ≤ e.r * 256 ^ f ∧ 1 ≤ e.r ∧ e.r < 4294967296 ∧ e.l + f ≤ 1000000000 ∧ (q' = q ∨ w.heap.size ≤ q') ∧ Only (duo g q) w wr

/-- One round of a levelling. -/
theorem lev_step {w wr : World} {g q q' f : Nat} {T e : En} (hP : Pe wr g q' e) (hr : e.r < 16777216) (hev : e.evs (f + 1) = T) (hf : 16777216 ≤ e.r * 256 ^ (f + 1)) (hr0 : 1 ≤ e.r) (hl : e.l + (f + 1) ≤ 1000000000) (hq : q' = q ∨ w.heap.size ≤ q') (hO : Only (duo g q) w wr) :
    Calls Try.prog 39 #[.pointer (some ⟨g, 0, none⟩)] (wr.setCell ⟨g, 1, none⟩ (.int .u32 ((e.r * 256 : Nat) : Int))) fun x w3 => x = .returned (.tuple #[]) ∧ LevRel w w3 g q T ∧ w3.cell? ⟨g, 1, none⟩ = some (.int .u32 ((e.r * 256 : Nat) : Int)) := by
  have hlt := hP.lt
  have hsz : (wr.setCell ⟨g, 1, none⟩ (.int .u32 ((e.r * 256 : Nat) : Int))).heap.size = wr.heap.size := by simp [World.setCell]
  have hws := hO.size
  refine (egive_any (hP.span (e.r * 256)) (by show e.l ≤ _; omega)).mono ?_
  rintro x w3 ⟨rfl, q2, hP2, hq2, hO2⟩
  rw [hsz] at hq2
  have he : e.even = ⟨e.n * 256, e.l + 1, e.r * 256⟩ := by unfold En.even; rw [if_pos hr]
  refine ⟨rfl, ⟨q2, ⟨e.n * 256, e.l + 1, e.r * 256⟩, f, hP2, by rw [← he]; exact hev, ?_, by show 1 ≤ e.r * 256; omega, by show e.r * 256 < _; omega, by show e.l + 1 + f ≤ _; omega, ?_, ?_⟩, hP2.cell1.1⟩
  · show 16777216 ≤ e.r * 256 * 256 ^ f
    rw [Nat.pow_succ, Nat.mul_comm (256 ^ f), ← Nat.mul_assoc] at hf
    exact hf
  · rcases hq2 with h | h
    · rw [h]; exact hq
    · exact .inr (by omega)
  · refine (hO.setCell (p := ⟨g, 1, none⟩) (.inl (duo_l g q)) _).trans' hO2 (fun i hi => ?_)
    rcases hi with hi | hi
    · exact .inl (.inl hi)
    · rcases hq with h | h
      · exact .inl (.inr (hi.trans h))
      · exact .inr (by omega)

set_option maxHeartbeats 4000000 in
theorem wlevel_any {w w0 : World} {g q : Nat} {T : En} (h : LevRel w w0 g q T) :
    Calls Try.prog 41 #[.pointer (some ⟨g, 0, none⟩)] w0 (PePost w g q T) := by
  have HREL0 := Lib.hid h
  clear h
  go_enter Try.func41, Try.ntmps41
  go_wp2_with fail
  go_loopw [] (fun wr => LevRel w wr g q T) (fun wr => 4294967296 - rangeNat wr g)
  case atStart => exact HREL0.out
  case round =>
    clear HREL0
    obtain ⟨q1, e1, f, hPe, hev, hf, hr0, hr1, hlen, hq, hO⟩ := hrel
    obtain ⟨d1, z1⟩ := hPe.cell1
    have m1 : rangeNat wr g = e1.r := by unfold rangeNat; rw [d1]; rfl
    by_cases hlow : e1.r < 16777216
    · obtain ⟨f, rfl⟩ : ∃ f', f = f' + 1 := by
        cases f with
        | zero => rw [Nat.pow_zero, Nat.mul_one] at hf; omega
        | succ f => exact ⟨f, rfl⟩
      have K := lev_step hPe hlow hev hf hr0 hlen hq hO
      obtain ⟨R, hR⟩ : ∃ R, R = e1.r * 256 := ⟨_, rfl⟩
      obtain ⟨ri, hri⟩ : ∃ ri : Int, ri = (e1.r : Int) := ⟨_, rfl⟩
      obtain ⟨X, hX⟩ : ∃ X : Int, X = (R : Int) := ⟨_, rfl⟩
      rw [← hR, ← hX] at K
      have hlo : ri < 16777216 := by omega
      have x1 : IntKind.u32.wrap (ri * 256) = X := by rw [hX, hR, hri, show (e1.r : Int) * 256 = ((e1.r * 256 : Nat) : Int) by omega]; exact u32_is _ (by omega) (by omega)
      have HM := Lib.hid (show e1.r < R ∧ R < 4294967296 by omega)
      have HX := Lib.hid hX
      have HM1 := Lib.hid m1
      have HK := Lib.hid K
      rw [← hri] at d1
      clear hPe hev hf hr0 hr1 hlen hq hO hlow hri hR hX K m1
      go_wp2_with fail
      refine HK.out.mono ?_
      rintro x w3 ⟨rfl, hrel3, k1⟩
      have HREL := Lib.hid hrel3
      have HK1 := Lib.hid k1
      clear hrel3 k1 HK
      go_wp2_with fail
      go_roundw
      case rel => exact HREL.out
      case measure =>
        have m2 : rangeNat w3 g = R := by unfold rangeNat; rw [HK1.out, HX.out]; rfl
        rw [m2, HM1.out]
        have := HM.out
        omega
    · obtain ⟨ri, hri⟩ : ∃ ri : Int, ri = (e1.r : Int) := ⟨_, rfl⟩
      have hlo : ¬ ri < 16777216 := by omega
      have HE := Lib.hid (show PePost w g q T (.returned (.tuple #[])) wr from ⟨rfl, q1, by rw [← hev, evs_high hlow]; exact hPe, hq, hO⟩)
      rw [← hri] at d1
      clear hPe hev hf hr0 hr1 hlen hq hO hlow hri m1
      go_wp2_with fail
      first | go_end0 | refine bodyPost_ret (results_none rfl _ _ _) rfl ?_
      exact HE.out

section
variable {w : World} {g q : Nat} {e : En}
theorem duo_only {w w1 w2 : World} {g q : Nat} (h : Only (duo g q) w w1) (k : Only (fun i => i = g) w1 w2) : Only (duo g q) w w2 := h.trans (k.mono fun _ h => .inl h)

set_option maxHeartbeats 4000000 in
theorem putPart_any {s z t : Nat} (h : Pe w g q e) (he : EnOk e) (hz : 1 ≤ z) (hs : s + z ≤ t) (ht : t ≤ 1048576) (hlen : e.l ≤ 999999900) :
    Calls Try.prog 36 #[.pointer (some ⟨g, 0, none⟩), .int .u32 (s : Int), .int .u32 (z : Int), .int .u32 (t : Int)] w (PePost w g q (putE e 0 s z t)) := by
  obtain ⟨a1, a2, a3⟩ := share_in he.1 hz hs ht
  have hr := he.2.1
  obtain ⟨R, hR⟩ : ∃ R, R = e.r / t := ⟨_, rfl⟩
  have hRle : R ≤ e.r := by rw [hR]; exact Nat.div_le_self _ _
  obtain ⟨p, hp⟩ : ∃ p, p = s * R := ⟨_, rfl⟩
  obtain ⟨S, hS⟩ : ∃ S, S = R * z := ⟨_, rfl⟩
  obtain ⟨T, hT⟩ : ∃ T, T = putE e 0 s z t := ⟨_, rfl⟩
  have hT2 : (⟨e.n + p, e.l, S⟩ : En).evs 3 = T := by rw [hT, hp, hS, hR]; unfold putE; rw [if_pos rfl]; rfl
  rw [← hR] at a1 a2 a3
  rw [← hp] at a3
  rw [← hS] at a2 a3
  rw [← hT]
  obtain ⟨ri, hri⟩ : ∃ ri : Int, ri = (e.r : Int) := ⟨_, rfl⟩
  have e1 : ri / (t : Int) = (R : Int) := by rw [hri, hR]; exact (Int.natCast_ediv e.r t).symm
  have e2 : ri.tdiv (t : Int) = (R : Int) := by rw [Int.tdiv_eq_ediv_of_nonneg (by omega)]; exact e1
  have e3 : IntKind.u32.wrap (R : Int) = (R : Int) := u32_is _ (by omega) (by omega)
  have t0 : ¬ (t : Int) = 0 := by omega
  have e5 : IntKind.u32.wrap ((s : Int) * (R : Int)) = (p : Int) := by rw [← Int.natCast_mul, ← hp]; exact u32_is _ (by omega) (by omega)
  have e7 : IntKind.u32.wrap ((R : Int) * (z : Int)) = (S : Int) := by rw [← Int.natCast_mul, ← hS]; exact u32_is _ (by omega) (by omega)
  obtain ⟨d1, f1⟩ := h.cell1
  rw [← hri] at d1
  have K1 := Lib.hid (eraise_any (v := p) (h.span R) (by omega) (enIn_fits he.2.2 (by omega)) (by show e.l ≤ _; omega))
  have j1 : (w.setCell ⟨g, 1, none⟩ (.int .u32 (R : Int))).cell? ⟨g, 1, none⟩ = some (.int .u32 (R : Int)) := (h.span R).cell1.1
  have HO1 := Lib.hid ((Only.refl (duo g q) w).setCell (p := ⟨g, 1, none⟩) (.inl (duo_l g q)) (.int .u32 (R : Int)))
  have HNUM := Lib.hid (show e.l ≤ 999999900 ∧ 16 ≤ S ∧ S < 4294967296 by omega)
  have HT2 := Lib.hid hT2
  clear h he hz hs ht hlen a1 a2 a3 hr hR hp hS hT hT2 hRle hri
  go_enter Try.func36, Try.ntmps36
  go_wp2_with fail
  refine K1.out.mono ?_
  rintro x w2 ⟨rfl, hP2, hO2⟩
  obtain ⟨d2, f2⟩ := hP2.cell1
  dsimp only at d2
  have HK2 := Lib.hid (wlevel_any (T := T) (g := g) (q := q) (w := w) (w0 := w2.setCell ⟨g, 1, none⟩ (.int .u32 (S : Int)))
    ⟨q, ⟨e.n + p, e.l, S⟩, 3, hP2.span S, HT2.out, by have := HNUM.out; show 16777216 ≤ S * 256 ^ 3; omega, by have := HNUM.out; show 1 ≤ S; omega, HNUM.out.2.2, by have := HNUM.out; show e.l + 3 ≤ _; omega, .inl rfl, (HO1.out.trans hO2).setCell (p := ⟨g, 1, none⟩) (.inl (duo_l g q)) _⟩)
  clear hP2 hO2 K1 HO1 HNUM HT2 d1 f1 j1
  go_wp2_with fail
  refine HK2.out.mono ?_
  intro x w3 h3
  obtain ⟨rfl, h3⟩ := h3
  have H3 := Lib.hid h3
  clear h3 HK2
  go_wp2_with fail
  first | go_end0 | refine bodyPost_ret (results_none rfl _ _ _) rfl ?_
  exact ⟨rfl, H3.out⟩

set_option maxHeartbeats 4000000 in
theorem putBit_any {s z t : Nat} (h : Pe w g q e) (he : EnOk e) (hs : s ≤ 1) (ht : t ≤ 16) (hz : 1 ≤ z) (hz2 : z < 2 ^ t) (hlen : e.l ≤ 999999900) :
    Calls Try.prog 37 #[.pointer (some ⟨g, 0, none⟩), .int .u32 (s : Int), .int .u32 (z : Int), .int .u32 (t : Int)] w (PePost w g q (putE e 1 s z t)) := by
  obtain ⟨a1, a2⟩ := share_bound he.1 ht hz hz2
  have hr := he.2.1
  have KB := Lib.hid (boundOf_any (a := e.r) (z := z) (t := t) (by omega) hr ht w)
  obtain ⟨b, hb⟩ : ∃ b, b = e.r / 2 ^ t * z := ⟨_, rfl⟩
  rw [← hb] at a1 a2 KB
  obtain ⟨T, hT⟩ : ∃ T, T = putE e 1 s z t := ⟨_, rfl⟩
  rw [← hT]
  obtain ⟨d1, f1⟩ := h.cell1
  by_cases hs0 : s = 0
  · subst hs0
    have hT2 : (⟨e.n, e.l, b⟩ : En).evs 3 = T := by rw [hT, hb]; unfold putE; rw [if_neg (by decide), if_pos rfl]; rfl
    have HK2 := Lib.hid (wlevel_any (T := T) (g := g) (q := q) (w := w) (w0 := w.setCell ⟨g, 1, none⟩ (.int .u32 (b : Int)))
      ⟨q, ⟨e.n, e.l, b⟩, 3, h.span b, hT2, by show 16777216 ≤ b * 256 ^ 3; omega, by show 1 ≤ b; omega, by show b < _; omega, by show e.l + 3 ≤ _; omega, .inl rfl, (Only.refl (duo g q) w).setCell (p := ⟨g, 1, none⟩) (.inl (duo_l g q)) _⟩)
    clear h he hs ht hz hz2 hlen a1 a2 hb hT hT2
    generalize (e.r : Int) = ri at *
    clear hr
    go_enter Try.func37, Try.ntmps37
    go_wp2_with fail
    refine KB.out.mono ?_
    rintro x w1 ⟨rfl, rfl⟩
    clear KB
    go_wp2_with fail
    refine HK2.out.mono ?_
    intro x w3 h3
    obtain ⟨rfl, h3⟩ := h3
    have H3 := Lib.hid h3
    clear h3 HK2
    go_wp2_with fail
    first | go_end0 | refine bodyPost_ret (results_none rfl _ _ _) rfl ?_
    exact ⟨rfl, H3.out⟩
  · obtain rfl : s = 1 := by omega
    obtain ⟨S, hS⟩ : ∃ S, S = e.r - b := ⟨_, rfl⟩
    have hT2 : (⟨e.n + b, e.l, S⟩ : En).evs 3 = T := by rw [hT, hS, hb]; unfold putE; rw [if_neg (by decide), if_neg (by decide)]; rfl
    obtain ⟨ri, hri⟩ : ∃ ri : Int, ri = (e.r : Int) := ⟨_, rfl⟩
    have e1 : IntKind.u32.wrap (ri - (b : Int)) = (S : Int) := by rw [hri, show (e.r : Int) - (b : Int) = (S : Int) by omega]; exact u32_is _ (by omega) (by omega)
    have K1 := Lib.hid (eraise_any (v := b) h (by omega) (enIn_fits he.2.2 (by omega)) (by omega))
    have HNUM := Lib.hid (show e.l ≤ 999999900 ∧ 256 ≤ S ∧ S < 4294967296 by omega)
    have HT2 := Lib.hid hT2
    have HRI := Lib.hid hri
    rw [← hri] at d1 KB
    clear h he hs ht hz hz2 hlen a1 a2 hb hT hT2 hS hs0 hr hri
    go_enter Try.func37, Try.ntmps37
    go_wp2_with fail
    refine KB.out.mono ?_
    rintro x w1 ⟨rfl, rfl⟩
    clear KB
    go_wp2_with fail
    refine K1.out.mono ?_
    rintro x w2 ⟨rfl, hP2, hO2⟩
    obtain ⟨d2, f2⟩ := hP2.cell1
    dsimp only at d2
    rw [← HRI.out] at d2
    have HK2 := Lib.hid (wlevel_any (T := T) (g := g) (q := q) (w := w) (w0 := w2.setCell ⟨g, 1, none⟩ (.int .u32 (S : Int)))
      ⟨q, ⟨e.n + b, e.l, S⟩, 3, hP2.span S, HT2.out, by have := HNUM.out; show 16777216 ≤ S * 256 ^ 3; omega, by have := HNUM.out; show 1 ≤ S; omega, HNUM.out.2.2, by have := HNUM.out; show e.l + 3 ≤ _; omega, .inl rfl, hO2.setCell (p := ⟨g, 1, none⟩) (.inl (duo_l g q)) _⟩)
    clear hP2 hO2 K1 HNUM HT2 d1 f1
    go_wp2_with fail
    refine HK2.out.mono ?_
    intro x w3 h3
    obtain ⟨rfl, h3⟩ := h3
    have H3 := Lib.hid h3
    clear h3 HK2
    go_wp2_with fail
    first | go_end0 | refine bodyPost_ret (results_none rfl _ _ _) rfl ?_
    exact ⟨rfl, H3.out⟩
end
end Go.Proofs.Ytkjhdpfomofggaa
