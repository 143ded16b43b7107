/-
  B2Next: put together.
-/
import Derived.Test.YtdnkoeafnnohnaaV19
set_option linter.unusedVariables false
set_option linter.unusedSimpArgs false
/-
  The filter's next byte.
-/
namespace Go.Proofs.Ytdnkoeafnnohnaa
open Go.RowKit

theorem b2_many_lt (k : Nat) (s : B2) : ∀ j, (B2.many k j (0, s)).1 < 256 ^ j
  | 0 => by simp [B2.many]
  | j + 1 => by
    have h1 := b2_many_lt k s j
    have h2 := b2_read_lt (B2.many k j (0, s)).2 k
    show (B2.many k j (0, s)).1 * 256 + ((B2.many k j (0, s)).2.read k).1 < _
    rw [Nat.pow_succ]
    omega
theorem b2_wr (x : Nat) : wr32 x < 4294967296 := Nat.mod_lt _ (by decide)

section
variable {w w' : World} {F g : Nat} {S : Nat → Sc} {bs : Nat → List UInt8} {s s' : B2}

set_option maxRecDepth 100000 in
set_option maxHeartbeats 2000000 in
theorem b2place_any (h : Fl w F g S bs s) :
    Calls Try.prog 49 #[.pointer (some ⟨F, 0, none⟩)] w (BPost w F g S bs (.int .u32 (s.place.1 : Int)) s.place.2) := by
  have c8 := h.blk.num
  have KC := Lib.hid (isCall_any s.num w)
  obtain ⟨k, hk⟩ : ∃ k, k = s.strm := ⟨_, rfl⟩
  have hk3 : k < 3 := by rw [hk]; unfold B2.strm; split <;> omega
  have HP := Lib.hid (show s.place = B2.many k 4 (0, s) by unfold B2.place; rw [hk])
  rw [HP.out]
  have HH := Lib.hid h
  have go : ∀ b : Bool, b = decide (s.num < 256) → Calls Try.prog 49 #[.pointer (some ⟨F, 0, none⟩)] w (BPost w F g S bs (.int .u32 ((B2.many k 4 (0, s)).1 : Int)) (B2.many k 4 (0, s)).2) := by
    intro b hb
    rw [← hb] at KC
    have hkb : k = if b = true then 1 else 2 := by
      rw [hk, hb]; unfold B2.strm
      by_cases e : s.num < 256
      · rw [if_pos e, decide_eq_true e]; rfl
      · rw [if_neg e, decide_eq_false e]; rfl
    clear hb hk h
    cases b
    · obtain rfl : k = 2 := hkb
      clear hk3
      go_enter Try.func49, Try.ntmps49
      go_wp2_with fail
      refine KC.out.mono ?_
      rintro e w1 ⟨rfl, rfl⟩
      clear KC
      go_wp2_with fail
      go_loopw [4, 10] (fun p i wr => ∃ j : Nat, j ≤ 4 ∧ i = .int .i64 (j : Int) ∧ p = .int .u32 (((B2.many 2 j (0, s)).1 : Nat) : Int) ∧ Fl wr F g S bs (B2.many 2 j (0, s)).2 ∧ Only (fset F g S) w wr) (fun _ i _ => 4 - (intOf i).toNat)
      case atStart => exact ⟨0, by omega, rfl, rfl, HH.out, Only.refl _ _⟩
      case round =>
        clear HH
        obtain ⟨j, hj, rfl, rfl, hf, ho⟩ := hrel
        by_cases hlt : j < 4
        · have K := Lib.hid (b2read_any (k := 2) (by omega) hf)
          have hx := b2_read_lt (B2.many 2 j (0, s)).2 2
          have hp : (B2.many 2 j (0, s)).1 < 16777216 := Nat.lt_of_lt_of_le (b2_many_lt 2 s j) (Nat.pow_le_pow_right (n := 256) (by omega) (show j ≤ 3 by omega))
          have HO := Lib.hid ho
          have hlt' : (j : Int) < 4 := by omega
          have HN := Lib.hid (show B2.many 2 (j + 1) (0, s) = ((B2.many 2 j (0, s)).1 * 256 + ((B2.many 2 j (0, s)).2.read 2).1, ((B2.many 2 j (0, s)).2.read 2).2) from rfl)
          clear hf ho
          generalize B2.many 2 j (0, s) = t at *
          generalize t.2.read 2 = u at *
          have e1 : IntKind.u32.wrap ((t.1 : Int) * 256) = (t.1 : Int) * 256 := u32_of _ (by omega) (by omega)
          have e2 := u32_or_byte t.1 u.1 hp hx
          have e3 : IntKind.u32.wrap (u.1 : Int) = (u.1 : Int) := u32_of _ (by omega) (by omega)
          clear hp hx
          go_wp2_with fail
          refine K.out.mono ?_
          rintro e w1 ⟨rfl, hf1, ho1⟩
          have HF := Lib.hid (And.intro hf1 (HO.out.trans ho1))
          clear hf1 ho1 K HO
          go_wp2_with fail
          go_roundw
          case rel => exact ⟨j + 1, by omega, by go_num, by rw [HN.out]; go_num, by rw [HN.out]; exact HF.out.1, HF.out.2⟩
          case measure => simp [intOf]; omega
        · obtain rfl : j = 4 := by omega
          have HF := Lib.hid (And.intro hf ho)
          clear hf ho
          go_wp2_with fail
          go_ret
          exact ⟨rfl, HF.out.1, HF.out.2⟩
    · obtain rfl : k = 1 := hkb
      clear hk3
      go_enter Try.func49, Try.ntmps49
      go_wp2_with fail
      refine KC.out.mono ?_
      rintro e w1 ⟨rfl, rfl⟩
      clear KC
      go_wp2_with fail
      go_loopw [4, 10] (fun p i wr => ∃ j : Nat, j ≤ 4 ∧ i = .int .i64 (j : Int) ∧ p = .int .u32 (((B2.many 1 j (0, s)).1 : Nat) : Int) ∧ Fl wr F g S bs (B2.many 1 j (0, s)).2 ∧ Only (fset F g S) w wr) (fun _ i _ => 4 - (intOf i).toNat)
      case atStart => exact ⟨0, by omega, rfl, rfl, HH.out, Only.refl _ _⟩
      case round =>
        clear HH
        obtain ⟨j, hj, rfl, rfl, hf, ho⟩ := hrel
        by_cases hlt : j < 4
        · have K := Lib.hid (b2read_any (k := 1) (by omega) hf)
          have hx := b2_read_lt (B2.many 1 j (0, s)).2 1
          have hp : (B2.many 1 j (0, s)).1 < 16777216 := Nat.lt_of_lt_of_le (b2_many_lt 1 s j) (Nat.pow_le_pow_right (n := 256) (by omega) (show j ≤ 3 by omega))
          have HO := Lib.hid ho
          have hlt' : (j : Int) < 4 := by omega
          have HN := Lib.hid (show B2.many 1 (j + 1) (0, s) = ((B2.many 1 j (0, s)).1 * 256 + ((B2.many 1 j (0, s)).2.read 1).1, ((B2.many 1 j (0, s)).2.read 1).2) from rfl)
          clear hf ho
          generalize B2.many 1 j (0, s) = t at *
          generalize t.2.read 1 = u at *
          have e1 : IntKind.u32.wrap ((t.1 : Int) * 256) = (t.1 : Int) * 256 := u32_of _ (by omega) (by omega)
          have e2 := u32_or_byte t.1 u.1 hp hx
          have e3 : IntKind.u32.wrap (u.1 : Int) = (u.1 : Int) := u32_of _ (by omega) (by omega)
          clear hp hx
          go_wp2_with fail
          refine K.out.mono ?_
          rintro e w1 ⟨rfl, hf1, ho1⟩
          have HF := Lib.hid (And.intro hf1 (HO.out.trans ho1))
          clear hf1 ho1 K HO
          go_wp2_with fail
          go_roundw
          case rel => exact ⟨j + 1, by omega, by go_num, by rw [HN.out]; go_num, by rw [HN.out]; exact HF.out.1, HF.out.2⟩
          case measure => simp [intOf]; omega
        · obtain rfl : j = 4 := by omega
          have HF := Lib.hid (And.intro hf ho)
          clear hf ho
          go_wp2_with fail
          go_ret
          exact ⟨rfl, HF.out.1, HF.out.2⟩
  exact go _ rfl

/-- An instruction's bit. -/
theorem b2bit_any (h : Fl w F g S bs s) (hd : s.dead = false) :
    Calls Try.prog 48 #[.pointer (some ⟨g, 0, none⟩), .pointer (some ⟨F, 5 + s.num, none⟩)] w (BPost w F g S bs (.int .i64 (s.bit.1 : Int)) s.bit.2) := by
  have hM : Mch (fun w ps => FlB w F (fun k => (S k).f) g { s with ps := ps }) g (S 3) (bs 3) 258 w ⟨s.ps, s.d⟩ := ⟨h.apt.ok 3 (by decide), h.pd hd, h.blk, ⟨h.ok.ps, h.ok.len, h.ok.d⟩⟩
  refine (lw_bit (k := 0) (b2_prb F (fun k => (S k).f) g s) (fun i hi => hi ▸ ⟨h.apt.nF 3 (by decide), h.apt.ne⟩) rfl h.ok.num hM).mono ?_
  rintro e w' ⟨rfl, hm, ho⟩
  have hO : Only (fset F g S) w w' := ho.mono fun i hi => by
    rcases hi with hi | hi | hi
    · exact .inr (.inr ⟨3, by decide, hi⟩)
    · exact .inr (.inl hi)
    · exact .inl hi
  refine ⟨rfl, ⟨FlB.same hm.row s.src s.bit.2.d, ⟨hm.ok.x, hm.ok.ps, hm.ok.len, h.ok.told, h.ok.ahead, h.ok.num, h.ok.target, h.ok.waits, h.ok.left⟩, h.apt, fun hd k hk => ?_, fun _ => hm.pd⟩, hO⟩
  obtain ⟨m, h1, h2⟩ := h.at_ hd k hk
  refine ⟨m, (h.apt.ok k (by omega)).only h1 ho (fun i hi hh => ?_), h2⟩
  rcases hi with hi | hi | hi
  · exact h.apt.dis 3 k (by decide) (by omega) (by omega) i ((h.apt.ok 3 (by decide)).tf i hi) hh
  · exact h.apt.ng k (by omega) (hi ▸ hh)
  · exact h.apt.nF k (by omega) (hi ▸ hh)
end
end Go.Proofs.Ytdnkoeafnnohnaa
