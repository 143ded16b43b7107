/-
  B2Read, B2Next, B2Tell, B2Fil: put together.
-/
import Derived.Test.YtdnkoeafnnohnaaY09
import Derived.Test.YtdnkoeafnnohnaaY07
import Derived.LoopTactic
set_option linter.unusedVariables false
set_option linter.unusedSimpArgs false
/-
  The filter's small calls: a stream's next byte, a place, the bit of an instruction, what is drawn.
-/
namespace Go.Proofs.Ytdnkoeafnnohnaa
open Go.RowKit

theorem b2_more {s : B2} {k n : Nat} {b : List UInt8} (hb : s.bad = false) (hs : s.src k = b.drop n) (hn : n < b.length) :
    s.read k = ((b.getD n 0).toNat, { s with src := fun i => if i = k then b.drop (n + 1) else s.src i }) := by
  have e : b.drop n = b.getD n 0 :: b.drop (n + 1) := by
    rw [List.drop_eq_getElem_cons hn]
    simp [List.getD, hn]
  unfold B2.read
  rw [if_neg (by rw [hb]; simp), hs, e]
theorem b2_end {s : B2} {k : Nat} (hb : s.bad = false) (hs : s.src k = []) : s.read k = (0, { s with dead := true }) := by
  unfold B2.read
  rw [if_neg (by rw [hb]; simp), hs]
theorem b2_read_bad {s : B2} {k : Nat} (hb : s.bad = true) : s.read k = (0, s) := by
  unfold B2.read
  rw [if_pos hb]
theorem bad_of {s : B2} (h : s.bad = false) : s.dead = false ∧ s.d ≠ none := by
  unfold B2.bad at h
  rw [Bool.or_eq_false_iff] at h
  refine ⟨h.1, fun e => ?_⟩
  rw [e] at h
  cases h.2
theorem b2_read_lt (s : B2) (k : Nat) : (s.read k).1 < 256 := by
  unfold B2.read
  split
  · simp
  · split
    · simp
    · exact UInt8.toNat_lt _

section
variable {w w' : World} {F g : Nat} {S : Nat → Sc} {bs : Nat → List UInt8} {s s' : B2}

/-- A source turns. -/
theorem Fl.took (h : Fl w F g S bs s) {k n : Nat} (hk : k < 3) (hA : (S k).At w' (bs k) n) (hO : Only (S k).turn w w') :
    Fl w' F g S bs { s with src := fun i => if i = k then (bs k).drop n else s.src i } := by
  have ht := fun i (hi : (S k).turn i) => (h.apt.ok k (by omega)).tf i hi
  refine ⟨(h.blk.only hO (fun hh => h.apt.nF k (by omega) (ht F hh))).same _ s.d, ⟨h.ok.d, h.ok.ps, h.ok.len, h.ok.told, h.ok.ahead, h.ok.num, h.ok.target, h.ok.waits, h.ok.left⟩, h.apt, fun hd l hl => ?_, fun hd => ?_⟩
  · by_cases e : l = k
    · subst e
      exact ⟨n, hA, if_pos rfl⟩
    · obtain ⟨m, h1, h2⟩ := h.at_ hd l hl
      exact ⟨m, (h.apt.ok l (by omega)).only h1 hO (fun i hi hh => h.apt.dis k l (by omega) (by omega) (fun e' => e e'.symm) i (ht i hi) hh), (if_neg e).trans h2⟩
  · exact (h.pd hd).only (h.apt.ok 3 (by decide)) hO (fun i hi => ⟨fun hh => h.apt.dis k 3 (by omega) (by decide) (by omega) i (ht i hi) hh, fun e => h.apt.ng k (by omega) (e ▸ ht i hi)⟩)
theorem Fl.die (h : Fl w F g S bs s) : Fl (w.setCell ⟨F, 263, none⟩ (.bool true)) F g S bs { s with dead := true } :=
  h.own (h.blk.putDead true) ((Only.refl (fun i => i = F) w).setCell (p := ⟨F, 263, none⟩) (.inl rfl) _) h.ok.withD (fun e => by cases e) rfl rfl

set_option maxRecDepth 100000 in
set_option maxHeartbeats 2000000 in
theorem b2read_any {k : Nat} (hk : k < 3) (h : Fl w F g S bs s) :
    Calls Try.prog 50 #[.pointer (some ⟨F, 0, none⟩), .int .i64 (k : Int)] w (BPost w F g S bs (.int .u8 ((s.read k).1 : Int)) (s.read k).2) := by
  have KB := Lib.hid (flbad_any h)
  cases hb : s.bad with
  | true =>
    rw [b2_read_bad hb]
    rw [hb] at KB
    have HH := Lib.hid h
    clear h hb
    go_enter Try.func50, Try.ntmps50
    go_wp2_with fail
    refine KB.out.mono ?_
    rintro e w1 ⟨rfl, rfl⟩
    go_wp2_with fail
    go_ret
    exact ⟨rfl, HH.out, Only.refl _ _⟩
  | false =>
    obtain ⟨hd, hdn⟩ := bad_of hb
    obtain ⟨n, hA, hs⟩ := h.at_ hd k hk
    have hok := h.apt.ok k (by omega)
    have hle := hok.le hA
    have cs : w.cell? ⟨F, k, none⟩ = some (.iface 37 (.pointer (some ⟨(S k).f, 0, none⟩))) := h.blk.src (by omega)
    have z3 := h.blk.free 263
    have k0 : (0 : Int) ≤ (k : Int) := by omega
    have k4 : (k : Int) < 4 := by omega
    have hm := method_next
    rw [hb] at KB
    by_cases hlt : n < (bs k).length
    · rw [b2_more hb hs hlt]
      have K := Lib.hid (hok.more hA hlt)
      have HH := Lib.hid h
      obtain ⟨x, hx⟩ : ∃ x, x = (bs k).getD n 0 := ⟨_, rfl⟩
      rw [← hx] at K ⊢
      clear h hb hd hdn hA hs hok hle hlt hx z3
      go_enter Try.func50, Try.ntmps50
      go_wp2_with fail
      refine KB.out.mono ?_
      rintro e w1 ⟨rfl, rfl⟩
      go_wp2_with fail
      refine K.out.mono ?_
      rintro e w1 ⟨rfl, hA1, hO1⟩
      have HA := Lib.hid (And.intro hA1 hO1)
      clear hA1 hO1 K KB cs
      go_wp2_with fail
      go_ret
      exact ⟨rfl, HH.out.took hk HA.out.1 HA.out.2, HA.out.2.mono fun i hi => .inr (.inr ⟨k, by omega, hi⟩)⟩
    · have hn : n = (bs k).length := by omega
      subst hn
      have hs0 : s.src k = [] := by rw [hs]; exact List.drop_length
      rw [b2_end hb hs0]
      have K := Lib.hid (hok.done hA)
      have HH := Lib.hid (And.intro h hs)
      clear h hb hd hdn hA hs hs0 hok hle hlt
      go_enter Try.func50, Try.ntmps50
      go_wp2_with fail
      refine KB.out.mono ?_
      rintro e w1 ⟨rfl, rfl⟩
      go_wp2_with fail
      refine K.out.mono ?_
      rintro e w1 ⟨rfl, hA1, hO1⟩
      have hF1 := HH.out.1.took hk hA1 hO1
      have es : (fun i => if i = k then (bs k).drop (bs k).length else s.src i) = s.src := by
        funext i
        by_cases e : i = k
        · subst e; rw [if_pos rfl, HH.out.2]
        · rw [if_neg e]
      rw [es] at hF1
      have z3 := hF1.blk.free 263
      have c3 : w1.cell? ⟨F, 263, none⟩ = some (.bool s.dead) := hF1.blk.dead
      have HA := Lib.hid (And.intro hF1 hO1)
      clear hA1 hO1 K KB cs hF1 es
      go_wp2_with fail
      go_ret
      exact ⟨rfl, HA.out.1.die, (HA.out.2.mono fun i hi => .inr (.inr ⟨k, by omega, hi⟩)).setCell (.inl (.inl rfl)) _⟩
end
end Go.Proofs.Ytdnkoeafnnohnaa

/-
  The filter's next byte.
-/
namespace Go.Proofs.Ytdnkoeafnnohnaa
open Go.RowKit

theorem b2_many_lt (k : Nat) (s : B2) : ∀ j, (B2.many k j (0, s)).1 < 256 ^ j
  | 0 => by simp [B2.many]
  | j + 1 => by
    have h1 := b2_many_lt k s j
    have h2 := b2_read_lt (B2.many k j (0, s)).2 k
    show (B2.many k j (0, s)).1 * 256 + ((B2.many k j (0, s)).2.read k).1 < _
    rw [Nat.pow_succ]
    omega
theorem b2_wr (x : Nat) : wr32 x < 4294967296 := Nat.mod_lt _ (by decide)

section
variable {w w' : World} {F g : Nat} {S : Nat → Sc} {bs : Nat → List UInt8} {s s' : B2}

set_option maxRecDepth 100000 in
set_option maxHeartbeats 2000000 in
theorem b2place_any (h : Fl w F g S bs s) :
    Calls Try.prog 49 #[.pointer (some ⟨F, 0, none⟩)] w (BPost w F g S bs (.int .u32 (s.place.1 : Int)) s.place.2) := by
  have c8 := h.blk.num
  have KC := Lib.hid (isCall_any s.num w)
  obtain ⟨k, hk⟩ : ∃ k, k = s.strm := ⟨_, rfl⟩
  have hk3 : k < 3 := by rw [hk]; unfold B2.strm; split <;> omega
  have HP := Lib.hid (show s.place = B2.many k 4 (0, s) by unfold B2.place; rw [hk])
  rw [HP.out]
  have HH := Lib.hid h
  have go : ∀ b : Bool, b = decide (s.num < 256) → Calls Try.prog 49 #[.pointer (some ⟨F, 0, none⟩)] w (BPost w F g S bs (.int .u32 ((B2.many k 4 (0, s)).1 : Int)) (B2.many k 4 (0, s)).2) := by
    intro b hb
    rw [← hb] at KC
    have hkb : k = if b = true then 1 else 2 := by
      rw [hk, hb]; unfold B2.strm
      by_cases e : s.num < 256
      · rw [if_pos e, decide_eq_true e]; rfl
      · rw [if_neg e, decide_eq_false e]; rfl
    clear hb hk h
    cases b
    · obtain rfl : k = 2 := hkb
      clear hk3
      go_enter Try.func49, Try.ntmps49
      go_wp2_with fail
      refine KC.out.mono ?_
      rintro e w1 ⟨rfl, rfl⟩
      clear KC
      go_wp2_with fail
      go_loopw [4, 10] (fun p i wr => ∃ j : Nat, j ≤ 4 ∧ i = .int .i64 (j : Int) ∧ p = .int .u32 (((B2.many 2 j (0, s)).1 : Nat) : Int) ∧ Fl wr F g S bs (B2.many 2 j (0, s)).2 ∧ Only (fset F g S) w wr) (fun _ i _ => 4 - (intOf i).toNat)
      case atStart => exact ⟨0, by omega, rfl, rfl, HH.out, Only.refl _ _⟩
      case round =>
        clear HH
        obtain ⟨j, hj, rfl, rfl, hf, ho⟩ := hrel
        by_cases hlt : j < 4
        · have K := Lib.hid (b2read_any (k := 2) (by omega) hf)
          have hx := b2_read_lt (B2.many 2 j (0, s)).2 2
          have hp : (B2.many 2 j (0, s)).1 < 16777216 := Nat.lt_of_lt_of_le (b2_many_lt 2 s j) (Nat.pow_le_pow_right (n := 256) (by omega) (show j ≤ 3 by omega))
          have HO := Lib.hid ho
          have hlt' : (j : Int) < 4 := by omega
          have HN := Lib.hid (show B2.many 2 (j + 1) (0, s) = ((B2.many 2 j (0, s)).1 * 256 + ((B2.many 2 j (0, s)).2.read 2).1, ((B2.many 2 j (0, s)).2.read 2).2) from rfl)
          clear hf ho
          generalize B2.many 2 j (0, s) = t at *
          generalize t.2.read 2 = u at *
          have e1 : IntKind.u32.wrap ((t.1 : Int) * 256) = (t.1 : Int) * 256 := u32_of _ (by omega) (by omega)
          have e2 := u32_or_byte t.1 u.1 hp hx
          have e3 : IntKind.u32.wrap (u.1 : Int) = (u.1 : Int) := u32_of _ (by omega) (by omega)
          clear hp hx
          go_wp2_with fail
          refine K.out.mono ?_
          rintro e w1 ⟨rfl, hf1, ho1⟩
          have HF := Lib.hid (And.intro hf1 (HO.out.trans ho1))
          clear hf1 ho1 K HO
          go_wp2_with fail
          go_roundw
          case rel => exact ⟨j + 1, by omega, by go_num, by rw [HN.out]; go_num, by rw [HN.out]; exact HF.out.1, HF.out.2⟩
          case measure => simp [intOf]; omega
        · obtain rfl : j = 4 := by omega
          have HF := Lib.hid (And.intro hf ho)
          clear hf ho
          go_wp2_with fail
          go_ret
          exact ⟨rfl, HF.out.1, HF.out.2⟩
    · obtain rfl : k = 1 := hkb
      clear hk3
      go_enter Try.func49, Try.ntmps49
      go_wp2_with fail
      refine KC.out.mono ?_
      rintro e w1 ⟨rfl, rfl⟩
      clear KC
      go_wp2_with fail
      go_loopw [4, 10] (fun p i wr => ∃ j : Nat, j ≤ 4 ∧ i = .int .i64 (j : Int) ∧ p = .int .u32 (((B2.many 1 j (0, s)).1 : Nat) : Int) ∧ Fl wr F g S bs (B2.many 1 j (0, s)).2 ∧ Only (fset F g S) w wr) (fun _ i _ => 4 - (intOf i).toNat)
      case atStart => exact ⟨0, by omega, rfl, rfl, HH.out, Only.refl _ _⟩
      case round =>
        clear HH
        obtain ⟨j, hj, rfl, rfl, hf, ho⟩ := hrel
        by_cases hlt : j < 4
        · have K := Lib.hid (b2read_any (k := 1) (by omega) hf)
          have hx := b2_read_lt (B2.many 1 j (0, s)).2 1
          have hp : (B2.many 1 j (0, s)).1 < 16777216 := Nat.lt_of_lt_of_le (b2_many_lt 1 s j) (Nat.pow_le_pow_right (n := 256) (by omega) (show j ≤ 3 by omega))
          have HO := Lib.hid ho
          have hlt' : (j : Int) < 4 := by omega
          have HN := Lib.hid (show B2.many 1 (j + 1) (0, s) = ((B2.many 1 j (0, s)).1 * 256 + ((B2.many 1 j (0, s)).2.read 1).1, ((B2.many 1 j (0, s)).2.read 1).2) from rfl)
          clear hf ho
          generalize B2.many 1 j (0, s) = t at *
          generalize t.2.read 1 = u at *
          have e1 : IntKind.u32.wrap ((t.1 : Int) * 256) = (t.1 : Int) * 256 := u32_of _ (by omega) (by omega)
          have e2 := u32_or_byte t.1 u.1 hp hx
          have e3 : IntKind.u32.wrap (u.1 : Int) = (u.1 : Int) := u32_of _ (by omega) (by omega)
          clear hp hx
          go_wp2_with fail
          refine K.out.mono ?_
          rintro e w1 ⟨rfl, hf1, ho1⟩
          have HF := Lib.hid (And.intro hf1 (HO.out.trans ho1))
          clear hf1 ho1 K HO
          go_wp2_with fail
          go_roundw
          case rel => exact ⟨j + 1, by omega, by go_num, by rw [HN.out]; go_num, by rw [HN.out]; exact HF.out.1, HF.out.2⟩
          case measure => simp [intOf]; omega
        · obtain rfl : j = 4 := by omega
          have HF := Lib.hid (And.intro hf ho)
          clear hf ho
          go_wp2_with fail
          go_ret
          exact ⟨rfl, HF.out.1, HF.out.2⟩
  exact go _ rfl

/-- An instruction's bit. -/
theorem b2bit_any (h : Fl w F g S bs s) (hd : s.dead = false) :
    Calls Try.prog 48 #[.pointer (some ⟨g, 0, none⟩), .pointer (some ⟨F, 5 + s.num, none⟩)] w (BPost w F g S bs (.int .i64 (s.bit.1 : Int)) s.bit.2) := by
  have hM : Mch (fun w ps => FlB w F (fun k => (S k).f) g { s with ps := ps }) g (S 3) (bs 3) 258 w ⟨s.ps, s.d⟩ := ⟨h.apt.ok 3 (by decide), h.pd hd, h.blk, ⟨h.ok.ps, h.ok.len, h.ok.d⟩⟩
  refine (lw_bit (k := 0) (b2_prb F (fun k => (S k).f) g s) (fun i hi => hi ▸ ⟨h.apt.nF 3 (by decide), h.apt.ne⟩) rfl h.ok.num hM).mono ?_
  rintro e w' ⟨rfl, hm, ho⟩
  have hO : Only (fset F g S) w w' := ho.mono fun i hi => by
    rcases hi with hi | hi | hi
    · exact .inr (.inr ⟨3, by decide, hi⟩)
    · exact .inr (.inl hi)
    · exact .inl hi
  refine ⟨rfl, ⟨FlB.same hm.row s.src s.bit.2.d, ⟨hm.ok.x, hm.ok.ps, hm.ok.len, h.ok.told, h.ok.ahead, h.ok.num, h.ok.target, h.ok.waits, h.ok.left⟩, h.apt, fun hd k hk => ?_, fun _ => hm.pd⟩, hO⟩
  obtain ⟨m, h1, h2⟩ := h.at_ hd k hk
  refine ⟨m, (h.apt.ok k (by omega)).only h1 ho (fun i hi hh => ?_), h2⟩
  rcases hi with hi | hi | hi
  · exact h.apt.dis 3 k (by decide) (by omega) (by omega) i ((h.apt.ok 3 (by decide)).tf i hi) hh
  · exact h.apt.ng k (by omega) (hi ▸ hh)
  · exact h.apt.nF k (by omega) (hi ▸ hh)
end
end Go.Proofs.Ytdnkoeafnnohnaa

/-
  The filter decides an instruction, draws a byte, tells the next one.
-/
namespace Go.Proofs.Ytdnkoeafnnohnaa
open Go.RowKit

theorem cell_other {w : World} {a b : Addr} {v : Value} (h : a ≠ b) : (w.setCell a v).cell? b = w.cell? b := World.cell?_setCell_other _ _ _ _ h
theorem addr_ne {b b' i i' : Nat} (h : b = b' → i ≠ i') : (⟨b, i, none⟩ : Addr) ≠ ⟨b', i', none⟩ := by
  intro e
  injection e with e1 e2
  exact h e1 e2

section
variable {w w' : World} {F g : Nat} {S : Nat → Sc} {bs : Nat → List UInt8} {s s' : B2}

theorem b2shut_ok (h : B2Ok s) : B2Ok s.shut := ⟨h.d, h.ps, h.len, h.told, h.ahead, h.num, h.target, h.waits, h.left⟩
theorem Fl.shut (h : Fl w F g S bs s) : Fl (w.setCell ⟨F, 267, none⟩ (.bool false)) F g S bs s.shut :=
  h.own (s' := s.shut) (h.blk.putOpn false) ((Only.refl (fun i => i = F) w).setCell (p := ⟨F, 267, none⟩) (.inl rfl) _) (b2shut_ok h.ok) (fun e => e) rfl rfl
theorem Fl.putTarget (h : Fl w F g S bs s) {x : Nat} (hx : x < 4294967296) : Fl (w.setCell ⟨F, 269, none⟩ (.int .u32 (x : Int))) F g S bs { s with target := x } :=
  h.own (s' := { s with target := x }) (h.blk.putTarget x) ((Only.refl (fun i => i = F) w).setCell (p := ⟨F, 269, none⟩) (.inl rfl) _) ⟨h.ok.d, h.ok.ps, h.ok.len, h.ok.told, h.ok.ahead, h.ok.num, hx, h.ok.waits, h.ok.left⟩ (fun e => e) rfl rfl
theorem Fl.putWaits (h : Fl w F g S bs s) {x : Nat} (hx : x ≤ 4) : Fl (w.setCell ⟨F, 270, none⟩ (.int .i64 (x : Int))) F g S bs { s with waits := x } :=
  h.own (s' := { s with waits := x }) (h.blk.putWaits x) ((Only.refl (fun i => i = F) w).setCell (p := ⟨F, 270, none⟩) (.inl rfl) _) ⟨h.ok.d, h.ok.ps, h.ok.len, h.ok.told, h.ok.ahead, h.ok.num, h.ok.target, hx, h.ok.left⟩ (fun e => e) rfl rfl
theorem Fl.putMark (h : Fl w F g S bs s) {x : Nat} (b : Bool) (hx : x < 258) : Fl ((w.setCell ⟨F, 268, none⟩ (.int .i64 (x : Int))).setCell ⟨F, 267, none⟩ (.bool b)) F g S bs { s with num := x, opn := b } :=
  h.own (s' := { s with num := x, opn := b }) ((h.blk.putNum x).putOpn b) (((Only.refl (fun i => i = F) w).setCell (p := ⟨F, 268, none⟩) (.inl rfl) _).setCell (p := ⟨F, 267, none⟩) (.inl rfl) _) ⟨h.ok.d, h.ok.ps, h.ok.len, h.ok.told, h.ok.ahead, hx, h.ok.target, h.ok.waits, h.ok.left⟩ (fun e => e) rfl rfl

theorem b2_many_keep (k : Nat) (s : B2) : ∀ j, (B2.many k j (0, s)).2.told = s.told ∧ (B2.many k j (0, s)).2.left = s.left ∧ (B2.many k j (0, s)).2.ahead = s.ahead ∧ (B2.many k j (0, s)).2.opn = s.opn ∧ (B2.many k j (0, s)).2.num = s.num ∧ (B2.many k j (0, s)).2.d = s.d ∧ (B2.many k j (0, s)).2.ps = s.ps ∧ (B2.many k j (0, s)).2.waits = s.waits
  | 0 => ⟨rfl, rfl, rfl, rfl, rfl, rfl, rfl, rfl⟩
  | j + 1 => by
    have h := b2_many_keep k s j
    have h2 : ∀ t : B2, (t.read k).2.told = t.told ∧ (t.read k).2.left = t.left ∧ (t.read k).2.ahead = t.ahead ∧ (t.read k).2.opn = t.opn ∧ (t.read k).2.num = t.num ∧ (t.read k).2.d = t.d ∧ (t.read k).2.ps = t.ps ∧ (t.read k).2.waits = t.waits := fun t => by
      unfold B2.read
      split
      · exact ⟨rfl, rfl, rfl, rfl, rfl, rfl, rfl, rfl⟩
      · split
        · exact ⟨rfl, rfl, rfl, rfl, rfl, rfl, rfl, rfl⟩
        · exact ⟨rfl, rfl, rfl, rfl, rfl, rfl, rfl, rfl⟩
    have h3 := h2 (B2.many k j (0, s)).2
    exact ⟨h3.1.trans h.1, h3.2.1.trans h.2.1, h3.2.2.1.trans h.2.2.1, h3.2.2.2.1.trans h.2.2.2.1, h3.2.2.2.2.1.trans h.2.2.2.2.1, h3.2.2.2.2.2.1.trans h.2.2.2.2.2.1, h3.2.2.2.2.2.2.1.trans h.2.2.2.2.2.2.1, h3.2.2.2.2.2.2.2.trans h.2.2.2.2.2.2.2⟩
theorem b2_target (p n : Nat) (hp : p < 4294967296) (hn : n < 4294967296) : IntKind.u32.wrap (IntKind.u32.wrap ((p : Int) - (n : Int)) - 4) = ((wr32 (8589934592 + p - n - 4) : Nat) : Int) := by
  unfold wr32
  simp only [IntKind.wrap, IntKind.bits, IntKind.signed]
  simp
  omega

set_option maxRecDepth 100000 in
set_option maxHeartbeats 4000000 in
theorem b2dec_any (h : Fl w F g S bs s) :
    Calls Try.prog 31 #[.pointer (some ⟨F, 0, none⟩)] w (BPost w F g S bs (.tuple #[]) s.dec) := by
  have c7 := h.blk.opn
  have z7 := h.blk.free 267
  have hf1 := h.shut
  have hO1 := (Only.refl (fun i => i = F) w).setCell (p := ⟨F, 267, none⟩) (.inl rfl) (.bool false)
  have KB := Lib.hid (flbad_any hf1)
  have hbs : s.shut.bad = s.bad := rfl
  rw [hbs] at KB
  have HO1 := Lib.hid (own_fset (g := g) (S := S) hO1)
  have HF1 := Lib.hid hf1
  cases hb : s.bad with
  | true =>
    have he : s.dec = s.shut := by unfold B2.dec; rw [if_pos hb]
    rw [he]
    rw [hb] at KB
    have HBAD := Lib.hid hb
    clear h hf1 hO1 hbs hb he
    go_enter Try.func31, Try.ntmps31
    go_wp2_with fail
    generalize w.setCell ⟨F, 267, none⟩ (.bool false) = w1 at *
    have KBN := Lib.hid (fun n => flbad_any (HF1.out.drewN n))
    rw [show s.shut.bad = true from HBAD.out] at KBN
    go_quiet ((go_at_call 33; exact quiet_same_at (KBN.out _)))
    go_wp2_with fail
    first | go_end0 | refine bodyPost_ret (results_none rfl _ _ _) rfl ?_
    exact ⟨rfl, HF1.out.drewN _, HO1.out.drewN _⟩
  | false =>
    obtain ⟨hd, hdn⟩ := bad_of hb
    have hds : s.shut.dead = false := hd
    rw [hb] at KB
    have c4 := hf1.blk.dec
    have c8 := hf1.blk.num
    obtain ⟨v, hv⟩ : ∃ v, v = s.shut.bit.1 := ⟨_, rfl⟩
    obtain ⟨t, ht⟩ : ∃ t, t = s.shut.bit.2 := ⟨_, rfl⟩
    have KT := Lib.hid (fun n => b2bit_any (hf1.drewN n) hds)
    rw [← hv, ← ht] at KT
    have HTN := Lib.hid (show t.num = s.shut.num by rw [ht]; rfl)
    have n0 : (0 : Int) ≤ (s.shut.num : Int) := by omega
    have n1 : (s.shut.num : Int) < 258 := by have := hf1.ok.num; omega
    have HB := Lib.hid hb
    by_cases hv0 : v = 0
    · have he : s.dec = t := by unfold B2.dec; rw [if_neg (by rw [hb]; simp), ← hv, if_pos hv0, ht]
      rw [he]
      subst hv0
      clear h hO1 hbs hb hd hdn hds hv ht he
      go_enter Try.func31, Try.ntmps31
      go_wp2_with fail
      generalize w.setCell ⟨F, 267, none⟩ (.bool false) = w1 at *
      clear hf1 c7 z7
      have KB := Lib.hid (fun n => flbad_any (HF1.out.drewN n))
      rw [show s.shut.bad = false from HB.out] at KB
      go_region_held3 (fun W => W.cell? ⟨F, 4, none⟩ = some (.pointer (some ⟨g, 0, none⟩)) ∧ W.cell? ⟨F, 268, none⟩ = some (.int .i64 (s.shut.num : Int))) (first | assumption | exact ⟨c4, c8⟩ | exact ⟨d4, d8⟩ | go_keep) (first | (go_at_call 33; refine (KB.out _).mono ?_; rintro e w2 ⟨rfl, rfl⟩) | (go_at_call 48; refine (KT.out _).mono ?_; rintro e w2 ⟨rfl, hf2, ho2⟩; have d4 := hf2.blk.dec; have d8 : w2.cell? ⟨F, 268, none⟩ = some (.int .i64 (s.shut.num : Int)) := HTN.out ▸ hf2.blk.num; have HF2 := Lib.hid (And.intro hf2 (HO1.out.trans (Only.of_drewN ho2))); clear hf2 ho2))
      clear KB KT c4 c8 d4 d8
      go_wp2_with fail
      first | go_end0 | refine bodyPost_ret (results_none rfl _ _ _) rfl ?_
      exact ⟨rfl, HF2.out.1, HF2.out.2⟩
    · have hv1 : ((v : Int) == 0) = false := by simp; omega
      have hl : t.left = s.left := by rw [ht]; rfl
      by_cases h4 : s.left < 4
      · have he : s.dec = { t with dead := true } := by unfold B2.dec; rw [if_neg (by rw [hb]; simp), ← hv, if_neg hv0, if_pos h4, ht]
        have hl4 : (t.left : Int) < 4 := by omega
        rw [he]
        clear h hO1 hbs hb hd hdn hds hv ht he hv0
        go_enter Try.func31, Try.ntmps31
        go_wp2_with fail
        generalize w.setCell ⟨F, 267, none⟩ (.bool false) = w1 at *
        clear hf1 c7 z7
        have KB := Lib.hid (fun n => flbad_any (HF1.out.drewN n))
        rw [show s.shut.bad = false from HB.out] at KB
        go_region_held3 (fun W => W.cell? ⟨F, 4, none⟩ = some (.pointer (some ⟨g, 0, none⟩)) ∧ W.cell? ⟨F, 268, none⟩ = some (.int .i64 (s.shut.num : Int))) (first | assumption | exact ⟨c4, c8⟩ | exact ⟨d4, d8⟩ | go_keep) (first | (go_at_call 33; refine (KB.out _).mono ?_; rintro e w2 ⟨rfl, rfl⟩) | (go_at_call 48; refine (KT.out _).mono ?_; rintro e w2 ⟨rfl, hf2, ho2⟩; have d4 := hf2.blk.dec; have d8 : w2.cell? ⟨F, 268, none⟩ = some (.int .i64 (s.shut.num : Int)) := HTN.out ▸ hf2.blk.num; have HF2 := Lib.hid (And.intro hf2 (HO1.out.trans (Only.of_drewN ho2))); clear hf2 ho2))
        clear KB KT c4 c8 d4 d8
        have c64 := HF2.out.1.blk.left
        have c63 := HF2.out.1.blk.dead
        have z63 := HF2.out.1.blk.free 263
        go_wp2_with fail
        first | go_end0 | refine bodyPost_ret (results_none rfl _ _ _) rfl ?_
        exact ⟨rfl, HF2.out.1.die, HF2.out.2.setCell (.inl (.inl rfl)) _⟩
      · have he : s.dec = B2.put4 t.place := by unfold B2.dec; rw [if_neg (by rw [hb]; simp), ← hv, if_neg hv0, if_neg h4, ht]
        have hl4 : ¬ (t.left : Int) < 4 := by omega
        rw [he]
        clear h hO1 hbs hb hd hdn hds hv ht he hv0
        go_enter Try.func31, Try.ntmps31
        go_wp2_with fail
        generalize w.setCell ⟨F, 267, none⟩ (.bool false) = w1 at *
        clear hf1 c7 z7
        have KB := Lib.hid (fun n => flbad_any (HF1.out.drewN n))
        rw [show s.shut.bad = false from HB.out] at KB
        go_region_held3 (fun W => W.cell? ⟨F, 4, none⟩ = some (.pointer (some ⟨g, 0, none⟩)) ∧ W.cell? ⟨F, 268, none⟩ = some (.int .i64 (s.shut.num : Int))) (first | assumption | exact ⟨c4, c8⟩ | exact ⟨d4, d8⟩ | go_keep) (first | (go_at_call 33; refine (KB.out _).mono ?_; rintro e w2 ⟨rfl, rfl⟩) | (go_at_call 48; refine (KT.out _).mono ?_; rintro e w2 ⟨rfl, hf2, ho2⟩; have d4 := hf2.blk.dec; have d8 : w2.cell? ⟨F, 268, none⟩ = some (.int .i64 (s.shut.num : Int)) := HTN.out ▸ hf2.blk.num; have HF2 := Lib.hid (And.intro hf2 (HO1.out.trans (Only.of_drewN ho2))); clear hf2 ho2))
        clear KB KT c4 c8 d4 d8
        have c64 := HF2.out.1.blk.left
        have KP := Lib.hid (fun n => b2place_any (HF2.out.1.drewN n))
        have hkeep := b2_many_keep t.strm t 4
        have hpl : t.place = B2.many t.strm 4 (0, t) := rfl
        rw [← hpl] at hkeep
        have hp1 : t.place.1 < 4294967296 := by have := b2_many_lt t.strm t 4; rw [← hpl] at this; omega
        have hto : t.told < 4294967296 := HF2.out.1.ok.told
        have HE := Lib.hid (b2_target t.place.1 t.told hp1 hto)
        have HPT := Lib.hid hkeep.1
        have c65 := HF2.out.1.blk.told
        have HP4 := Lib.hid (show B2.put4 t.place = { t.place.2 with target := wr32 (8589934592 + t.place.1 - t.place.2.told - 4), waits := 4 } from rfl)
        rw [hkeep.1] at HP4
        obtain ⟨y, hy⟩ : ∃ y, y = wr32 (8589934592 + t.place.1 - t.told - 4) := ⟨_, rfl⟩
        rw [← hy] at HP4 HE
        have HY := Lib.hid (show y < 4294967296 by rw [hy]; exact b2_wr _)
        clear hy hpl hkeep hp1 hto
        generalize t.place = u at *
        go_wp2_with fail
        have he2 := HE.out
        clear HE
        go_region_held3 (fun W => W.cell? ⟨F, 265, none⟩ = some (.int .u32 (t.told : Int))) (first | assumption | exact c65 | exact d65 | exact (cell_other (addr_ne fun _ => (by decide : (269 : Nat) ≠ 265))).trans d65 | go_keep) (first | (go_at_call 49; refine (KP.out _).mono ?_; rintro e w3 ⟨rfl, hf3, ho3⟩; have d65 : w3.cell? ⟨F, 265, none⟩ = some (.int .u32 (t.told : Int)) := HPT.out ▸ hf3.blk.told; have d69 := hf3.blk.target; have z69 := hf3.blk.free 269; have HF3 := Lib.hid (And.intro hf3 (HF2.out.2.trans (Only.of_drewN ho3))); clear hf3 ho3))
        clear KP c65 d65 he2 c64
        have HF4 := Lib.hid (And.intro (HF3.out.1.putTarget HY.out) (HF3.out.2.setCell (p := ⟨F, 269, none⟩) (.inl (.inl rfl)) (.int .u32 (y : Int))))
        clear HF3 d69 z69
        generalize w3.setCell ⟨F, 269, none⟩ (.int .u32 (y : Int)) = w4 at *
        have c70 := HF4.out.1.blk.waits
        have z70 := HF4.out.1.blk.free 270
        go_wp2_with fail
        first | go_end0 | refine bodyPost_ret (results_none rfl _ _ _) rfl ?_
        rw [HP4.out]
        exact ⟨rfl, HF4.out.1.putWaits (x := 4) (by omega), HF4.out.2.setCell (.inl (.inl rfl)) _⟩

set_option maxRecDepth 100000 in
set_option maxHeartbeats 4000000 in
/-- A byte is drawn. -/
theorem b2draw_any (h : Fl w F g S bs s) :
    Calls Try.prog 32 #[.pointer (some ⟨F, 0, none⟩)] w (BPost w F g S bs (.int .u8 (s.draw.1 : Int)) s.draw.2) := by
  have c70 := h.blk.waits
  by_cases h0 : s.waits = 0
  · have he : s.draw = ((s.read 0).1, { (s.read 0).2 with num := ((mark s.ahead (s.read 0).1).getD 0), opn := (mark s.ahead (s.read 0).1).isSome }) := by unfold B2.draw; rw [if_pos h0]
    have K := Lib.hid (b2read_any (k := 0) (by omega) h)
    have hx := b2_read_lt s 0
    have hah : (s.read 0).2.ahead = s.ahead := (b2_many_keep 0 s 1).2.2.1
    have ha := h.ok.ahead
    obtain ⟨u, hu⟩ : ∃ u, u = s.read 0 := ⟨_, rfl⟩
    rw [← hu] at K hx he hah
    rw [he]
    rw [h0] at c70
    have hml : (mark s.ahead u.1).getD 0 < 258 := by
      cases hm : mark s.ahead u.1 with
      | none => simp
      | some i => exact mark_lt ha hm
    have HML := Lib.hid (And.intro hml hah)
    have KC := Lib.hid (chance_any (a := s.ahead) (x := u.1) ha hx)
    unfold markV at KC
    generalize (mark s.ahead u.1).getD 0 = m at *
    generalize (mark s.ahead u.1).isSome = b at *
    clear h h0 hu he hml hx ha hah
    go_enter Try.func32, Try.ntmps32
    go_wp2_with fail
    refine K.out.mono ?_
    rintro e w1 ⟨rfl, hf1, ho1⟩
    have c66 : w1.cell? ⟨F, 266, none⟩ = some (.int .u8 (s.ahead : Int)) := HML.out.2 ▸ hf1.blk.ahead
    have c67 := hf1.blk.opn
    have c68 := hf1.blk.num
    have z67 := hf1.blk.free 267
    have z68 := hf1.blk.free 268
    have HF := Lib.hid (And.intro hf1 ho1)
    clear hf1 ho1 K c70
    go_wp2_with fail
    refine (KC.out _).mono ?_
    rintro e w2 ⟨rfl, rfl⟩
    go_wp2_with fail
    go_ret
    exact ⟨rfl, HF.out.1.putMark _ HML.out.1, (HF.out.2.setCell (.inl (.inl rfl)) _).setCell (.inl (.inl rfl)) _⟩
  · have he : s.draw = (s.target % 256, { s with target := s.target / 256, waits := s.waits - 1 }) := by unfold B2.draw; rw [if_neg h0]
    have hw : ((s.waits : Int) == 0) = false := by simp; omega
    have hw1 : IntKind.i64.wrap ((s.waits : Int) - 1) = ((s.waits - 1 : Nat) : Int) := by rw [show (s.waits : Int) - 1 = ((s.waits - 1 : Nat) : Int) by omega]; exact IntWalk.i64_in _ (by have := h.ok.waits; omega)
    have ht := h.ok.target
    obtain ⟨y, hy⟩ : ∃ y, y = s.target / 256 := ⟨_, rfl⟩
    obtain ⟨z, hz⟩ : ∃ z, z = s.target % 256 := ⟨_, rfl⟩
    have e1 : (s.target : Int) % 256 = (z : Int) := by omega
    have e2 : (s.target : Int) / 256 = (y : Int) := by omega
    have HY := Lib.hid (show y < 4294967296 by omega)
    rw [← hy, ← hz] at he
    clear hy hz
    have t0 : (0 : Int) ≤ (s.target : Int) := by omega
    have c69 := h.blk.target
    have z69 := h.blk.free 269
    have z70 := h.blk.free 270
    rw [he]
    have HF := Lib.hid ((h.putTarget (x := y) HY.out).putWaits (x := s.waits - 1) (by have := h.ok.waits; show s.waits - 1 ≤ 4; omega))
    clear h h0 he ht
    go_enter Try.func32, Try.ntmps32
    go_wp2_with fail
    go_ret
    exact ⟨rfl, HF.out, ((Only.refl _ w).setCell (.inl (.inl rfl)) _).setCell (.inl (.inl rfl)) _⟩
end
end Go.Proofs.Ytdnkoeafnnohnaa

/-
  The filter tells its next byte, or whether the streams end.
-/
namespace Go.Proofs.Ytdnkoeafnnohnaa
open Go.RowKit

def nextV : Option Nat → Value
  | none => .tuple #[.int .u8 0, .bool false]
  | some x => .tuple #[.int .u8 (x : Int), .bool true]

theorem b2_draw_lt (s : B2) : s.draw.1 < 256 := by
  unfold B2.draw
  split
  · exact b2_read_lt s 0
  · exact Nat.mod_lt _ (by decide)
theorem b2_read_left (s : B2) (k : Nat) : (s.read k).2.left = s.left := (b2_many_keep k s 1).2.1
theorem b2_draw_left (s : B2) : s.draw.2.left = s.left := by
  unfold B2.draw
  split
  · exact b2_read_left s 0
  · rfl
theorem b2_place_left (s : B2) : s.place.2.left = s.left := (b2_many_keep s.strm s 4).2.1
theorem b2_bit_left (s : B2) : s.bit.2.left = s.left := rfl
theorem b2_put4_left (u : Nat × B2) : (B2.put4 u).left = u.2.left := by simp only [B2.put4]
theorem b2_dec_left (s : B2) : s.dec.left = s.left := by
  unfold B2.dec
  split
  · rfl
  · split
    · rw [b2_bit_left]; rfl
    · split
      · show s.shut.bit.2.left = s.left
        rw [b2_bit_left]; rfl
      · rw [b2_put4_left, b2_place_left, b2_bit_left]; rfl
theorem b2_open_left (s : B2) : s.open_.left = s.left := by
  unfold B2.open_
  split
  · exact b2_dec_left s
  · rfl
theorem wr32_cast (x : Nat) : IntKind.u32.wrap ((x : Int) + 1) = ((wr32 (x + 1) : Nat) : Int) := by
  unfold wr32
  simp [IntKind.wrap, IntKind.bits, IntKind.signed]

section
variable {w w' : World} {F g : Nat} {S : Nat → Sc} {bs : Nat → List UInt8} {s s' : B2}

theorem Fl.told1 (h : Fl w F g S bs s) {l n x : Nat} (hl : l < 9223372036854775808) (hn : n < 4294967296) (hx : x < 256) :
    Fl (((w.setCell ⟨F, 264, none⟩ (.int .i64 (l : Int))).setCell ⟨F, 265, none⟩ (.int .u32 (n : Int))).setCell ⟨F, 266, none⟩ (.int .u8 (x : Int))) F g S bs { s with left := l, told := n, ahead := x } :=
  h.own (s' := { s with left := l, told := n, ahead := x }) (((h.blk.putLeft l).putTold n).putAhead x)
    ((((Only.refl (fun i => i = F) w).setCell (p := ⟨F, 264, none⟩) (.inl rfl) _).setCell (p := ⟨F, 265, none⟩) (.inl rfl) _).setCell (p := ⟨F, 266, none⟩) (.inl rfl) _)
    ⟨h.ok.d, h.ok.ps, h.ok.len, hn, hx, h.ok.num, h.ok.target, h.ok.waits, hl⟩ (fun e => e) rfl rfl

set_option maxRecDepth 100000 in
set_option maxHeartbeats 8000000 in
/-- The next byte. -/
theorem b2next_any (h : Fl w F g S bs s) :
    Calls Try.prog 17 #[.pointer (some ⟨F, 0, none⟩)] w (BPost w F g S bs (nextV s.next.1) s.next.2) := by
  have c64 := h.blk.left
  have c67 := h.blk.opn
  have z64 := h.blk.free 264
  by_cases hl0 : s.left = 0
  · have he : s.next = (none, s) := by unfold B2.next; rw [if_pos hl0]
    rw [he]
    rw [hl0] at c64
    have HH := Lib.hid h
    clear h hl0 he
    show Calls _ _ _ _ (BPost w F g S bs (.tuple #[.int .u8 0, .bool false]) s)
    go_enter Try.func17, Try.ntmps17
    go_wp2_with fail
    go_ret2
    exact ⟨rfl, HH.out, Only.refl _ _⟩
  · have hl1 : ((s.left : Int) == 0) = false := by simp; omega
    obtain ⟨t, ht⟩ : ∃ t, t = s.open_ := ⟨_, rfl⟩
    obtain ⟨u, hu⟩ : ∃ u, u = t.draw := ⟨_, rfl⟩
    have hx : u.1 < 256 := by rw [hu]; exact b2_draw_lt t
    have hul : u.2.left = s.left := by rw [hu, b2_draw_left, ht, b2_open_left]
    have hl9 := h.ok.left
    have KD := Lib.hid (show ∀ w1 : World, Fl w1 F g S bs t → Calls Try.prog 32 #[.pointer (some ⟨F, 0, none⟩)] w1 (BPost w1 F g S bs (.int .u8 (u.1 : Int)) u.2) from fun w1 hf => by rw [hu]; exact b2draw_any hf)
    have hn0 : u.2.bad = true → s.next = (none, u.2) := fun hb => by unfold B2.next; rw [if_neg hl0, ← ht, ← hu, if_pos hb]
    have hn1 : u.2.bad = false → s.next = (some u.1, u.2.told1 u.1) := fun hb => by unfold B2.next; rw [if_neg hl0, ← ht, ← hu, if_neg (by rw [hb]; simp)]
    have HN0 := Lib.hid hn0
    have HN1 := Lib.hid hn1
    have HUL := Lib.hid (And.intro hul (And.intro hl0 hl9))
    clear hn0 hn1
    cases ho : s.opn with
    | true =>
      have hto : t = s.dec := by rw [ht]; unfold B2.open_; rw [if_pos ho]
      have K := Lib.hid (b2dec_any h)
      rw [← hto] at K
      rw [ho] at c67
      clear h ht hu hto ho hl0 hul hl9
      go_enter Try.func17, Try.ntmps17
      go_wp2_with fail
      refine K.out.mono ?_
      rintro e w1 ⟨rfl, hf1, ho1⟩
      have HF1 := Lib.hid (And.intro hf1 ho1)
      clear hf1 ho1 K c64 c67
      go_wp2_with fail
      refine (KD.out _ HF1.out.1).mono ?_
      rintro e w2 ⟨rfl, hf2, ho2⟩
      have KB := Lib.hid (flbad_any hf2)
      have HF2 := Lib.hid (And.intro hf2 (HF1.out.2.trans ho2))
      clear hf2 ho2 HF1 KD
      cases hb : u.2.bad with
      | true =>
        have HE := Lib.hid (HN0.out hb)
        rw [hb] at KB
        clear hb HN0 HN1
        go_wp2_with fail
        refine KB.out.mono ?_
        rintro e w3 ⟨rfl, rfl⟩
        go_wp2_with fail
        go_ret2
        rw [HE.out]
        exact ⟨rfl, HF2.out.1, HF2.out.2⟩
      | false =>
        have HE := Lib.hid (HN1.out hb)
        rw [hb] at KB
        clear hb HN0 HN1
        have c64 := HF2.out.1.blk.left
        have c65 := HF2.out.1.blk.told
        have c66 := HF2.out.1.blk.ahead
        have z64 := HF2.out.1.blk.free 264
        have z65 := HF2.out.1.blk.free 265
        have z66 := HF2.out.1.blk.free 266
        have e1 : IntKind.i64.wrap ((u.2.left : Int) - 1) = ((u.2.left - 1 : Nat) : Int) := by
          obtain ⟨a1, a2, a3⟩ := HUL.out
          rw [show (u.2.left : Int) - 1 = ((u.2.left - 1 : Nat) : Int) by omega]; exact IntWalk.i64_in _ (by omega)
        have e2 := wr32_cast u.2.told
        have HL := Lib.hid (show u.2.left - 1 < 9223372036854775808 by have := HUL.out; omega)
        have HW := Lib.hid (b2_wr (u.2.told + 1))
        have HT := Lib.hid (show u.2.told1 u.1 = { u.2 with left := u.2.left - 1, told := wr32 (u.2.told + 1), ahead := u.1 } from rfl)
        generalize u.2.left - 1 = l at *
        generalize wr32 (u.2.told + 1) = n at *
        go_wp2_with fail
        refine KB.out.mono ?_
        rintro e w3 ⟨rfl, rfl⟩
        go_wp2_with fail
        go_ret2
        rw [HE.out, HT.out]
        exact ⟨rfl, HF2.out.1.told1 HL.out HW.out hx, ((HF2.out.2.setCell (.inl (.inl rfl)) _).setCell (.inl (.inl rfl)) _).setCell (.inl (.inl rfl)) _⟩
    | false =>
      have hto : t = s := by rw [ht]; unfold B2.open_; rw [if_neg (by rw [ho]; simp)]
      have HF1 := Lib.hid (show Fl w F g S bs t ∧ Only (fset F g S) w w from ⟨hto ▸ h, Only.refl _ _⟩)
      rw [ho] at c67
      clear h ht hu hto ho hl0 hul hl9
      go_enter Try.func17, Try.ntmps17
      go_wp2_with fail
      refine (KD.out _ HF1.out.1).mono ?_
      rintro e w2 ⟨rfl, hf2, ho2⟩
      have KB := Lib.hid (flbad_any hf2)
      have HF2 := Lib.hid (And.intro hf2 (HF1.out.2.trans ho2))
      clear hf2 ho2 HF1 KD
      cases hb : u.2.bad with
      | true =>
        have HE := Lib.hid (HN0.out hb)
        rw [hb] at KB
        clear hb HN0 HN1
        go_wp2_with fail
        refine KB.out.mono ?_
        rintro e w3 ⟨rfl, rfl⟩
        go_wp2_with fail
        go_ret2
        rw [HE.out]
        exact ⟨rfl, HF2.out.1, HF2.out.2⟩
      | false =>
        have HE := Lib.hid (HN1.out hb)
        rw [hb] at KB
        clear hb HN0 HN1
        have c64 := HF2.out.1.blk.left
        have c65 := HF2.out.1.blk.told
        have c66 := HF2.out.1.blk.ahead
        have z64 := HF2.out.1.blk.free 264
        have z65 := HF2.out.1.blk.free 265
        have z66 := HF2.out.1.blk.free 266
        have e1 : IntKind.i64.wrap ((u.2.left : Int) - 1) = ((u.2.left - 1 : Nat) : Int) := by
          obtain ⟨a1, a2, a3⟩ := HUL.out
          rw [show (u.2.left : Int) - 1 = ((u.2.left - 1 : Nat) : Int) by omega]; exact IntWalk.i64_in _ (by omega)
        have e2 := wr32_cast u.2.told
        have HL := Lib.hid (show u.2.left - 1 < 9223372036854775808 by have := HUL.out; omega)
        have HW := Lib.hid (b2_wr (u.2.told + 1))
        have HT := Lib.hid (show u.2.told1 u.1 = { u.2 with left := u.2.left - 1, told := wr32 (u.2.told + 1), ahead := u.1 } from rfl)
        generalize u.2.left - 1 = l at *
        generalize wr32 (u.2.told + 1) = n at *
        go_wp2_with fail
        refine KB.out.mono ?_
        rintro e w3 ⟨rfl, rfl⟩
        go_wp2_with fail
        go_ret2
        rw [HE.out, HT.out]
        exact ⟨rfl, HF2.out.1.told1 HL.out HW.out hx, ((HF2.out.2.setCell (.inl (.inl rfl)) _).setCell (.inl (.inl rfl)) _).setCell (.inl (.inl rfl)) _⟩
end
end Go.Proofs.Ytdnkoeafnnohnaa
