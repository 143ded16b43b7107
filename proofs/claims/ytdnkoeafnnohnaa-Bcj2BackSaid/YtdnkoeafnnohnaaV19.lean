/-
  B2Mem, B2Read: put together.
-/
import Derived.Test.YtdnkoeafnnohnaaV03
import Derived.Test.YtdnkoeafnnohnaaV08
import Derived.Test.YtdnkoeafnnohnaaV18
import Derived.Test.YtdnkoeafnnohnaaV14
import Derived.LoopTactic
set_option linter.unusedVariables false
set_option linter.unusedSimpArgs false
/-
  The filter of four streams in memory: its cells, its four sources, its decoder.
-/
namespace Go.Proofs.Ytdnkoeafnnohnaa
open Go.RowKit

def fdV (f : Nat) : Value := .iface 37 (.pointer (some ⟨f, 0, none⟩))
/-- the filter's cells -/
def b2c (f : Nat → Nat) (g : Nat) (s : B2) (i : Nat) : Value :=
  if i < 4 then fdV (f i)
  else if i = 4 then .pointer (some ⟨g, 0, none⟩)
  else if i < 263 then .int .u16 ((s.ps.getD (i - 5) 0 : Nat) : Int)
  else if i = 263 then .bool s.dead
  else if i = 264 then .int .i64 (s.left : Int)
  else if i = 265 then .int .u32 (s.told : Int)
  else if i = 266 then .int .u8 (s.ahead : Int)
  else if i = 267 then .bool s.opn
  else if i = 268 then .int .i64 (s.num : Int)
  else if i = 269 then .int .u32 (s.target : Int)
  else if i = 270 then .int .i64 (s.waits : Int)
  else .nilIface
def FlB (w : World) (F : Nat) (f : Nat → Nat) (g : Nat) (s : B2) : Prop :=
  s.ps.length = 258 ∧ ∃ cs, Blk w F 70 cs ∧ cs.size = 271 ∧ ∀ i, i < 271 → cs[i]? = some (b2c f g s i)

section
variable {w w' : World} {F g : Nat} {f : Nat → Nat} {s s' : B2}
theorem FlB.lt (h : FlB w F f g s) : F < w.heap.size := by obtain ⟨_, _, h, _⟩ := h; exact h.lt
theorem FlB.cell (h : FlB w F f g s) (i : Nat) (hi : i < 271) : w.cell? ⟨F, i, none⟩ = some (b2c f g s i) := by
  obtain ⟨_, cs, hB, _, hc⟩ := h
  rw [hB.cell i, hc i hi]
theorem FlB.free (h : FlB w F f g s) (i : Nat) : w.frozen? ⟨F, i, none⟩ = false := by
  obtain ⟨_, cs, hB, _⟩ := h
  exact hB.free i
theorem FlB.only {T : Nat → Prop} (h : FlB w F f g s) (hO : Only T w w') (hF : ¬ T F) : FlB w' F f g s := by
  obtain ⟨h0, cs, hB, hz, hc⟩ := h
  exact ⟨h0, cs, hB.only hO hF, hz, hc⟩
theorem FlB.put (h : FlB w F f g s) (i : Nat) (v : Value) (hl : s'.ps.length = 258) (hi : i < 271) (he : b2c f g s' i = v) (hn : ∀ j, j < 271 → j ≠ i → b2c f g s' j = b2c f g s j) : FlB (w.setCell ⟨F, i, none⟩ v) F f g s' := by
  obtain ⟨_, cs, hB, hz, hc⟩ := h
  refine ⟨hl, _, hB.put i v, by rw [Array.size_setIfInBounds]; exact hz, fun j hj => ?_⟩
  rw [Array.getElem?_setIfInBounds]
  by_cases e : i = j
  · subst e
    rw [if_pos rfl, if_pos (by omega), he]
  · rw [if_neg e, hc j hj, hn j hj (by omega)]
theorem FlB.src (h : FlB w F f g s) {k : Nat} (hk : k < 4) : w.cell? ⟨F, k, none⟩ = some (fdV (f k)) := by
  rw [h.cell k (by omega)]; unfold b2c; rw [if_pos hk]
theorem FlB.dec (h : FlB w F f g s) : w.cell? ⟨F, 4, none⟩ = some (.pointer (some ⟨g, 0, none⟩)) := h.cell 4 (by omega)
theorem FlB.ps (h : FlB w F f g s) {a : Nat} (ha : a < 258) : w.cell? ⟨F, 5 + a, none⟩ = some (.int .u16 ((s.ps.getD a 0 : Nat) : Int)) := by
  rw [h.cell (5 + a) (by omega)]; unfold b2c
  rw [if_neg (by omega), if_neg (by omega), if_pos (by omega), show 5 + a - 5 = a by omega]
theorem FlB.dead (h : FlB w F f g s) : w.cell? ⟨F, 263, none⟩ = some (.bool s.dead) := h.cell 263 (by omega)
theorem FlB.left (h : FlB w F f g s) : w.cell? ⟨F, 264, none⟩ = some (.int .i64 (s.left : Int)) := h.cell 264 (by omega)
theorem FlB.told (h : FlB w F f g s) : w.cell? ⟨F, 265, none⟩ = some (.int .u32 (s.told : Int)) := h.cell 265 (by omega)
theorem FlB.ahead (h : FlB w F f g s) : w.cell? ⟨F, 266, none⟩ = some (.int .u8 (s.ahead : Int)) := h.cell 266 (by omega)
theorem FlB.opn (h : FlB w F f g s) : w.cell? ⟨F, 267, none⟩ = some (.bool s.opn) := h.cell 267 (by omega)
theorem FlB.num (h : FlB w F f g s) : w.cell? ⟨F, 268, none⟩ = some (.int .i64 (s.num : Int)) := h.cell 268 (by omega)
theorem FlB.target (h : FlB w F f g s) : w.cell? ⟨F, 269, none⟩ = some (.int .u32 (s.target : Int)) := h.cell 269 (by omega)
theorem FlB.waits (h : FlB w F f g s) : w.cell? ⟨F, 270, none⟩ = some (.int .i64 (s.waits : Int)) := h.cell 270 (by omega)
theorem FlB.putDead (h : FlB w F f g s) (x : Bool) : FlB (w.setCell ⟨F, 263, none⟩ (.bool x)) F f g { s with dead := x } :=
  h.put 263 _ h.1 (by omega) rfl fun j _ hn => by simp [b2c, hn]
theorem FlB.putLeft (h : FlB w F f g s) (x : Nat) : FlB (w.setCell ⟨F, 264, none⟩ (.int .i64 (x : Int))) F f g { s with left := x } :=
  h.put 264 _ h.1 (by omega) rfl fun j _ hn => by simp [b2c, hn]
theorem FlB.putTold (h : FlB w F f g s) (x : Nat) : FlB (w.setCell ⟨F, 265, none⟩ (.int .u32 (x : Int))) F f g { s with told := x } :=
  h.put 265 _ h.1 (by omega) rfl fun j _ hn => by simp [b2c, hn]
theorem FlB.putAhead (h : FlB w F f g s) (x : Nat) : FlB (w.setCell ⟨F, 266, none⟩ (.int .u8 (x : Int))) F f g { s with ahead := x } :=
  h.put 266 _ h.1 (by omega) rfl fun j _ hn => by simp [b2c, hn]
theorem FlB.putOpn (h : FlB w F f g s) (x : Bool) : FlB (w.setCell ⟨F, 267, none⟩ (.bool x)) F f g { s with opn := x } :=
  h.put 267 _ h.1 (by omega) rfl fun j _ hn => by simp [b2c, hn]
theorem FlB.putNum (h : FlB w F f g s) (x : Nat) : FlB (w.setCell ⟨F, 268, none⟩ (.int .i64 (x : Int))) F f g { s with num := x } :=
  h.put 268 _ h.1 (by omega) rfl fun j _ hn => by simp [b2c, hn]
theorem FlB.putTarget (h : FlB w F f g s) (x : Nat) : FlB (w.setCell ⟨F, 269, none⟩ (.int .u32 (x : Int))) F f g { s with target := x } :=
  h.put 269 _ h.1 (by omega) rfl fun j _ hn => by simp [b2c, hn]
theorem FlB.putWaits (h : FlB w F f g s) (x : Nat) : FlB (w.setCell ⟨F, 270, none⟩ (.int .i64 (x : Int))) F f g { s with waits := x } :=
  h.put 270 _ h.1 (by omega) rfl fun j _ hn => by simp [b2c, hn]
theorem FlB.putPs (h : FlB w F f g s) {a : Nat} (ha : a < 258) (q : Nat) : FlB (w.setCell ⟨F, 5 + a, none⟩ (.int .u16 (q : Int))) F f g { s with ps := s.ps.set a q } :=
  h.put (5 + a) _ (by show (s.ps.set a q).length = 258; rw [List.length_set]; exact h.1) (by omega) (by
    unfold b2c
    rw [if_neg (by omega), if_neg (by omega), if_pos (by omega), show 5 + a - 5 = a by omega]
    have := h.1
    simp [List.getD, show a < s.ps.length by omega]) fun j hj hn => by
    unfold b2c
    by_cases h1 : 5 ≤ j ∧ j < 263
    · rw [if_neg (by omega), if_neg (by omega), if_pos (by omega), if_neg (by omega), if_neg (by omega), if_pos (by omega)]
      simp [List.getD, show a ≠ j - 5 by omega]
    · by_cases h2 : j < 4
      · simp only [if_pos h2]
      · by_cases h3 : j = 4
        · simp only [if_neg h2, if_pos h3]
        · simp only [if_neg h2, if_neg h3, if_neg (show ¬ j < 263 by omega)]
/-- what of the state the filter's own block doesn't hold -/
theorem FlB.same (h : FlB w F f g s) (src : Nat → List UInt8) (d : Dc) : FlB w F f g { s with src := src, d := d } := by
  obtain ⟨h0, cs, hB, hz, hc⟩ := h
  exact ⟨h0, cs, hB, hz, hc⟩
end

/-- its probabilities, wherever they lie -/
theorem b2_prb (F : Nat) (f : Nat → Nat) (g : Nat) (s : B2) : Prb (fun w ps => FlB w F f g { s with ps := ps }) (fun i => i = F) (fun a => (F, 5 + a)) 258 where
  blk _ := rfl
  cell h ha := h.ps ha
  free h _ := h.free _
  put h ha q := h.putPs ha q
  only h hO hS := h.only hO (hS F rfl)
  len h := h.1
  old h hi := by subst hi; exact h.lt

/-- four sources, the decoder and the filter, apart from each other -/
structure Apt (F g : Nat) (S : Nat → Sc) : Prop where
  ok : ∀ k, k < 4 → ScOk (S k)
  dis : ∀ k l, k < 4 → l < 4 → k ≠ l → ∀ i, (S k).hold i → ¬ (S l).hold i
  nF : ∀ k, k < 4 → ¬ (S k).hold F
  ng : ∀ k, k < 4 → ¬ (S k).hold g
  ne : F ≠ g
def fset (F g : Nat) (S : Nat → Sc) : Nat → Prop := fun i => i = F ∨ i = g ∨ ∃ k, k < 4 ∧ (S k).turn i
/-- the filter at block F with the decoder at block g over four sources of the bytes bs; its state is s -/
structure Fl (w : World) (F g : Nat) (S : Nat → Sc) (bs : Nat → List UInt8) (s : B2) : Prop where
  blk : FlB w F (fun k => (S k).f) g s
  ok : B2Ok s
  apt : Apt F g S
  at_ : s.dead = false → ∀ k, k < 3 → ∃ n, (S k).At w (bs k) n ∧ s.src k = (bs k).drop n
  pd : s.dead = false → Pd w g (S 3) (bs 3) s.d
def BPost (w : World) (F g : Nat) (S : Nat → Sc) (bs : Nat → List UInt8) (v : Value) (s : B2) (e : Ending) (w' : World) : Prop :=
  e = .returned v ∧ Fl w' F g S bs s ∧ Only (fset F g S) w w'

section
variable {w w' : World} {F g : Nat} {S : Nat → Sc} {bs : Nat → List UInt8} {s s' : B2}
theorem Apt.turn (h : Apt F g S) {k : Nat} (hk : k < 4) {i : Nat} (hi : (S k).turn i) : i ≠ F ∧ i ≠ g := by
  have := (h.ok k hk).tf i hi
  exact ⟨fun e => h.nF k hk (e ▸ this), fun e => h.ng k hk (e ▸ this)⟩
theorem Fl.drewN (h : Fl w F g S bs s) (n : Nat) : Fl (w.drewN n) F g S bs s :=
  ⟨h.blk.only ((Only.refl (fun _ => False) w).drewN n) (fun h => h), h.ok, h.apt, fun hd k hk => by
    obtain ⟨m, h1, h2⟩ := h.at_ hd k hk
    exact ⟨m, (h.apt.ok k (by omega)).only h1 ((Only.refl (fun _ => False) w).drewN n) (fun _ h => h.elim), h2⟩, fun hd => (h.pd hd).drewN (h.apt.ok 3 (by decide)) n⟩
/-- Other blocks turn. -/
theorem Fl.only {T : Nat → Prop} (h : Fl w F g S bs s) (hO : Only T w w') (hT : ∀ i, T i → i ≠ F ∧ i ≠ g ∧ ∀ k, k < 4 → ¬ (S k).hold i) : Fl w' F g S bs s :=
  ⟨h.blk.only hO (fun hh => (hT F hh).1 rfl), h.ok, h.apt, fun hd k hk => by
    obtain ⟨m, h1, h2⟩ := h.at_ hd k hk
    exact ⟨m, (h.apt.ok k (by omega)).only h1 hO (fun i hi => (hT i hi).2.2 k (by omega)), h2⟩, fun hd => (h.pd hd).only (h.apt.ok 3 (by decide)) hO (fun i hi => ⟨(hT i hi).2.2 3 (by decide), (hT i hi).2.1⟩)⟩
/-- The filter's own block turns. -/
theorem Fl.own (h : Fl w F g S bs s) (hB : FlB w' F (fun k => (S k).f) g s') (hO : Only (fun i => i = F) w w') (hok : B2Ok s') (hd : s'.dead = false → s.dead = false) (hsrc : s'.src = s.src) (hdd : s'.d = s.d) : Fl w' F g S bs s' :=
  ⟨hB, hok, h.apt, fun he k hk => by
    obtain ⟨m, h1, h2⟩ := h.at_ (hd he) k hk
    exact ⟨m, (h.apt.ok k (by omega)).only h1 hO (fun i hi hh => h.apt.nF k (by omega) (hi ▸ hh)), by rw [hsrc]; exact h2⟩, fun he => by
    rw [hdd]
    exact (h.pd (hd he)).only (h.apt.ok 3 (by decide)) hO (fun i hi => ⟨fun hh => h.apt.nF 3 (by decide) (hi ▸ hh), fun e => h.apt.ne (hi.symm.trans e)⟩)⟩
theorem own_fset {w w' : World} (h : Only (fun i => i = F) w w') : Only (fset F g S) w w' := h.mono fun i hi => .inl hi
theorem Fl.old (h : Fl w F g S bs s) : F < w.heap.size := h.blk.lt

theorem B2Ok.withD (h : B2Ok s) : B2Ok { s with dead := true } := ⟨h.d, h.ps, h.len, h.told, h.ahead, h.num, h.target, h.waits, h.left⟩

set_option maxHeartbeats 1000000 in
theorem flbad_any (h : Fl w F g S bs s) : Calls Try.prog 33 #[.pointer (some ⟨F, 0, none⟩)] w fun e w' => e = .returned (.bool s.bad) ∧ w = w' := by
  have c3 := h.blk.dead
  have c4 := h.blk.dec
  cases hd : s.dead
  · obtain ⟨at_, r, c, bad, hB, _, _, _, _, _, ht⟩ := h.pd hd
    have hb : s.bad = bad := by
      unfold B2.bad
      rw [hd]
      rcases ht with ⟨rfl, e⟩ | ⟨rfl, e⟩
      · rw [e]; rfl
      · rw [e]; rfl
    rw [hd] at c3
    have K := Lib.hid (bad_any hB)
    rw [hb]
    clear hB ht h hb hd
    go_enter Try.func33, Try.ntmps33
    go_wp2_with fail
    refine K.out.mono ?_
    rintro e w' ⟨rfl, rfl⟩
    go_wp2_with fail
    go_ret
    exact ⟨rfl, rfl⟩
  · have hb : s.bad = true := by unfold B2.bad; rw [hd]; rfl
    rw [hd] at c3
    rw [hb]
    clear h hb hd
    go_enter Try.func33, Try.ntmps33
    go_wp2_with fail
    go_ret
    exact ⟨rfl, rfl⟩
end
end Go.Proofs.Ytdnkoeafnnohnaa

/-
  The filter's small calls: a stream's next byte, a place, the bit of an instruction, what is drawn.
-/
namespace Go.Proofs.Ytdnkoeafnnohnaa
open Go.RowKit

theorem b2_more {s : B2} {k n : Nat} {b : List UInt8} (hb : s.bad = false) (hs : s.src k = b.drop n) (hn : n < b.length) :
    s.read k = ((b.getD n 0).toNat, { s with src := fun i => if i = k then b.drop (n + 1) else s.src i }) := by
  have e : b.drop n = b.getD n 0 :: b.drop (n + 1) := by
    rw [List.drop_eq_getElem_cons hn]
    simp [List.getD, hn]
  unfold B2.read
  rw [if_neg (by rw [hb]; simp), hs, e]
theorem b2_end {s : B2} {k : Nat} (hb : s.bad = false) (hs : s.src k = []) : s.read k = (0, { s with dead := true }) := by
  unfold B2.read
  rw [if_neg (by rw [hb]; simp), hs]
theorem b2_read_bad {s : B2} {k : Nat} (hb : s.bad = true) : s.read k = (0, s) := by
  unfold B2.read
  rw [if_pos hb]
theorem bad_of {s : B2} (h : s.bad = false) : s.dead = false ∧ s.d ≠ none := by
  unfold B2.bad at h
  rw [Bool.or_eq_false_iff] at h
  refine ⟨h.1, fun e => ?_⟩
  rw [e] at h
  cases h.2
theorem b2_read_lt (s : B2) (k : Nat) : (s.read k).1 < 256 := by
  unfold B2.read
  split
  · simp
  · split
    · simp
    · exact UInt8.toNat_lt _

section
variable {w w' : World} {F g : Nat} {S : Nat → Sc} {bs : Nat → List UInt8} {s s' : B2}

/-- A source turns. -/
theorem Fl.took (h : Fl w F g S bs s) {k n : Nat} (hk : k < 3) (hA : (S k).At w' (bs k) n) (hO : Only (S k).turn w w') :
    Fl w' F g S bs { s with src := fun i => if i = k then (bs k).drop n else s.src i } := by
  have ht := fun i (hi : (S k).turn i) => (h.apt.ok k (by omega)).tf i hi
  refine ⟨(h.blk.only hO (fun hh => h.apt.nF k (by omega) (ht F hh))).same _ s.d, ⟨h.ok.d, h.ok.ps, h.ok.len, h.ok.told, h.ok.ahead, h.ok.num, h.ok.target, h.ok.waits, h.ok.left⟩, h.apt, fun hd l hl => ?_, fun hd => ?_⟩
  · by_cases e : l = k
    · subst e
      exact ⟨n, hA, if_pos rfl⟩
    · obtain ⟨m, h1, h2⟩ := h.at_ hd l hl
      exact ⟨m, (h.apt.ok l (by omega)).only h1 hO (fun i hi hh => h.apt.dis k l (by omega) (by omega) (fun e' => e e'.symm) i (ht i hi) hh), (if_neg e).trans h2⟩
  · exact (h.pd hd).only (h.apt.ok 3 (by decide)) hO (fun i hi => ⟨fun hh => h.apt.dis k 3 (by omega) (by decide) (by omega) i (ht i hi) hh, fun e => h.apt.ng k (by omega) (e ▸ ht i hi)⟩)
theorem Fl.die (h : Fl w F g S bs s) : Fl (w.setCell ⟨F, 263, none⟩ (.bool true)) F g S bs { s with dead := true } :=
  h.own (h.blk.putDead true) ((Only.refl (fun i => i = F) w).setCell (p := ⟨F, 263, none⟩) (.inl rfl) _) h.ok.withD (fun e => by cases e) rfl rfl

set_option maxRecDepth 100000 in
set_option maxHeartbeats 2000000 in
theorem b2read_any {k : Nat} (hk : k < 3) (h : Fl w F g S bs s) :
    Calls Try.prog 50 #[.pointer (some ⟨F, 0, none⟩), .int .i64 (k : Int)] w (BPost w F g S bs (.int .u8 ((s.read k).1 : Int)) (s.read k).2) := by
  have KB := Lib.hid (flbad_any h)
  cases hb : s.bad with
  | true =>
    rw [b2_read_bad hb]
    rw [hb] at KB
    have HH := Lib.hid h
    clear h hb
    go_enter Try.func50, Try.ntmps50
    go_wp2_with fail
    refine KB.out.mono ?_
    rintro e w1 ⟨rfl, rfl⟩
    go_wp2_with fail
    go_ret
    exact ⟨rfl, HH.out, Only.refl _ _⟩
  | false =>
    obtain ⟨hd, hdn⟩ := bad_of hb
    obtain ⟨n, hA, hs⟩ := h.at_ hd k hk
    have hok := h.apt.ok k (by omega)
    have hle := hok.le hA
    have cs : w.cell? ⟨F, k, none⟩ = some (.iface 37 (.pointer (some ⟨(S k).f, 0, none⟩))) := h.blk.src (by omega)
    have z3 := h.blk.free 263
    have k0 : (0 : Int) ≤ (k : Int) := by omega
    have k4 : (k : Int) < 4 := by omega
    have hm := method_next
    rw [hb] at KB
    by_cases hlt : n < (bs k).length
    · rw [b2_more hb hs hlt]
      have K := Lib.hid (hok.more hA hlt)
      have HH := Lib.hid h
      obtain ⟨x, hx⟩ : ∃ x, x = (bs k).getD n 0 := ⟨_, rfl⟩
      rw [← hx] at K ⊢
      clear h hb hd hdn hA hs hok hle hlt hx z3
      go_enter Try.func50, Try.ntmps50
      go_wp2_with fail
      refine KB.out.mono ?_
      rintro e w1 ⟨rfl, rfl⟩
      go_wp2_with fail
      refine K.out.mono ?_
      rintro e w1 ⟨rfl, hA1, hO1⟩
      have HA := Lib.hid (And.intro hA1 hO1)
      clear hA1 hO1 K KB cs
      go_wp2_with fail
      go_ret
      exact ⟨rfl, HH.out.took hk HA.out.1 HA.out.2, HA.out.2.mono fun i hi => .inr (.inr ⟨k, by omega, hi⟩)⟩
    · have hn : n = (bs k).length := by omega
      subst hn
      have hs0 : s.src k = [] := by rw [hs]; exact List.drop_length
      rw [b2_end hb hs0]
      have K := Lib.hid (hok.done hA)
      have HH := Lib.hid (And.intro h hs)
      clear h hb hd hdn hA hs hs0 hok hle hlt
      go_enter Try.func50, Try.ntmps50
      go_wp2_with fail
      refine KB.out.mono ?_
      rintro e w1 ⟨rfl, rfl⟩
      go_wp2_with fail
      refine K.out.mono ?_
      rintro e w1 ⟨rfl, hA1, hO1⟩
      have hF1 := HH.out.1.took hk hA1 hO1
      have es : (fun i => if i = k then (bs k).drop (bs k).length else s.src i) = s.src := by
        funext i
        by_cases e : i = k
        · subst e; rw [if_pos rfl, HH.out.2]
        · rw [if_neg e]
      rw [es] at hF1
      have z3 := hF1.blk.free 263
      have c3 : w1.cell? ⟨F, 263, none⟩ = some (.bool s.dead) := hF1.blk.dead
      have HA := Lib.hid (And.intro hF1 hO1)
      clear hA1 hO1 K KB cs hF1 es
      go_wp2_with fail
      go_ret
      exact ⟨rfl, HA.out.1.die, (HA.out.2.mono fun i hi => .inr (.inr ⟨k, by omega, hi⟩)).setCell (.inl (.inl rfl)) _⟩
end
end Go.Proofs.Ytdnkoeafnnohnaa
