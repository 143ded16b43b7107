/-
  The program's window and the reference's, side by side.
-/
import Derived.Test.YtnokbibkjhhcoaaWnLast
import Derived.Test.YtnokbibkjhhcoaaWnRef
namespace Go.Proofs.Ytnokbibkjhhcoaa
open Go.RowKit

/-- both windows, the meter, and what is owned by each -/
structure PlS (Pw : World → Nat → (Nat → Prop) → Nat → Ws → Prop) (w0 W : World) (g r m : Nat) (G Gr : Nat → Prop) (t : Tel) (q : Quo) (c : Nat) (s1 s2 : Ws) : Prop where
  p : Pw W g G m s1
  e : Wr W r Gr s2
  tt : MeterAt W 60 m q t
  f : Fine q t
  d : ∀ i, G i → ¬ Gr i
  m1 : ¬ G m
  m2 : ¬ Gr m
  b1 : ∀ i, G i → w0.heap.size ≤ i
  b2 : ∀ i, Gr i → w0.heap.size ≤ i
  b3 : w0.heap.size ≤ m
  bel : Below w0.heap.size w0 W
  z1 : s1.sz ≤ 1048576
  z2 : s2.sz ≤ 1048576
  l1 : s1.l.length ≤ c
  l2 : s2.l.length ≤ c
  c : c ≤ 1000000

/-- and a pair of numbers in a block of its own -/
def Pl (Pw : World → Nat → (Nat → Prop) → Nat → Ws → Prop) (w0 W : World) (g r m B : Nat) (k n : Int) (q : Quo) (c : Nat) (s1 s2 : Ws) : Prop :=
  ∃ G Gr t, PlS Pw w0 W g r m G Gr t q c s1 s2 ∧ Blk W B 36 #[.int .i64 k, .int .i64 n] ∧ ¬ G B ∧ ¬ Gr B ∧ B ≠ m

section
variable {Pw : World → Nat → (Nat → Prop) → Nat → Ws → Prop} {w0 W W' : World} {g r m B c : Nat} {G Gr : Nat → Prop} {t : Tel} {q : Quo} {s1 s2 : Ws} {k n : Int}

theorem PlS.mono (h : PlS Pw w0 W g r m G Gr t q c s1 s2) {c' : Nat} (hc : c ≤ c') (h1 : c' ≤ 1000000) : PlS Pw w0 W g r m G Gr t q c' s1 s2 :=
  ⟨h.p, h.e, h.tt, h.f, h.d, h.m1, h.m2, h.b1, h.b2, h.b3, h.bel, h.z1, h.z2, Nat.le_trans h.l1 hc, Nat.le_trans h.l2 hc, h1⟩
/-- nothing of it has turned -/
theorem PlS.only (h : PlS Pw w0 W g r m G Gr t q c s1 s2) (C : WinCon Pw) (hO : Only (fun _ => False) W W') : PlS Pw w0 W' g r m G Gr t q c s1 s2 :=
  ⟨C.only h.p hO (fun _ _ h => h), h.e.only hO (fun _ _ h => h), Blk.only h.tt hO (fun h => h), h.f, h.d, h.m1, h.m2, h.b1, h.b2, h.b3, h.bel.trans (hO.below h.bel.size (fun _ h => h.elim)), h.z1, h.z2, h.l1, h.l2, h.c⟩
/-- a pair of numbers is laid -/
theorem PlS.box (h : PlS Pw w0 W g r m G Gr t q c s1 s2) (C : WinCon Pw) : Pl Pw w0 (W.alloc (.cells #[.int .i64 k, .int .i64 n] 36)) g r m W.heap.size k n q c s1 s2 := by
  have hO : Only (fun _ => False) W (W.alloc (.cells #[.int .i64 k, .int .i64 n] 36)) := (Only.refl _ W).alloc _
  refine ⟨G, Gr, t, h.only C hO, Blk.fresh W _ _, fun hh => ?_, fun hh => ?_, ?_⟩
  · have := C.old h.p hh; omega
  · have := h.e.old hh; omega
  · have := h.tt.lt; omega

theorem Pl.mono (h : Pl Pw w0 W g r m B k n q c s1 s2) {c' : Nat} (hc : c ≤ c') (h1 : c' ≤ 1000000) : Pl Pw w0 W g r m B k n q c' s1 s2 := by
  obtain ⟨G, Gr, t, h, hb⟩ := h
  exact ⟨G, Gr, t, h.mono hc h1, hb⟩
theorem Pl.cells (h : Pl Pw w0 W g r m B k n q c s1 s2) : W.cell? ⟨B, 0, none⟩ = some (.int .i64 k) ∧ W.cell? ⟨B, 1, none⟩ = some (.int .i64 n) := by
  obtain ⟨_, _, _, _, hb, _⟩ := h
  exact ⟨hb.cell 0, hb.cell 1⟩
theorem Pl.bel (h : Pl Pw w0 W g r m B k n q c s1 s2) : Below w0.heap.size w0 W := by
  obtain ⟨_, _, _, h, _⟩ := h
  exact h.bel
theorem Pl.drewN (h : Pl Pw w0 W g r m B k n q c s1 s2) (C : WinCon Pw) (d : Nat) : Pl Pw w0 (W.drewN d) g r m B k n q c s1 s2 := by
  obtain ⟨G, Gr, t, h, hb, r⟩ := h
  exact ⟨G, Gr, t, h.only C ((Only.refl _ W).drewN d), hb, r⟩
theorem Pl.rcells (h : Pl Pw w0 W g r m B k n q c s1 s2) : (∃ A c, W.cell? ⟨r, 1, none⟩ = some (.slice A s2.l.length c)) ∧ W.cell? ⟨r, 2, none⟩ = some (.bool s2.shut) ∧ W.frozen? ⟨r, 1, none⟩ = false ∧ W.frozen? ⟨r, 2, none⟩ = false := by
  obtain ⟨_, _, _, h, _⟩ := h
  obtain ⟨A, c, _, c1, c2, f1, f2⟩ := h.e.cells
  exact ⟨⟨A, c, c1⟩, c2, f1, f2⟩

/-- the program's window has turned -/
theorem pl_win {s : Ws} {v : Value} {x : Ending} (h : PlS Pw w0 W g r m G Gr t q c s1 s2) (hb : Blk W B 36 #[.int .i64 k, .int .i64 n]) (hG : ¬ G B) (hGr : ¬ Gr B) (hm : B ≠ m) (hz : s.sz ≤ 1048576) (hl : s.l.length ≤ c + 1) (hc : c + 1 ≤ 1000000)
    (hx : OwnPost (fun w' G' => Pw w' g G' m s) W G v x W') : x = .returned v ∧ Pl Pw w0 W' g r m B k n q (c + 1) s s2 := by
  obtain ⟨rfl, G', hP, hN, hO⟩ := hx
  have hlt := hb.lt
  have hml := h.tt.lt
  refine ⟨rfl, G', Gr, t, ⟨hP, h.e.only hO (fun i hi hg => h.d i hg hi), Blk.only h.tt hO h.m1, h.f, fun i hi hr => ?_, fun hi => ?_, h.m2, con_new h.bel.size (Below.refl _ W) (fun i hi => h.b1 i hi) hN, h.b2, h.b3, con_below (Nat.le_refl _) h.bel h.b1 hO, hz, h.z2, hl, by have := h.l2; omega, hc⟩, hb.only hO hG, fun hi => ?_, hGr, hm⟩
  · rcases hN i hi with h1 | h1
    · exact h.d i h1 hr
    · have := h.e.old hr; omega
  · rcases hN m hi with h1 | h1
    · exact h.m1 h1
    · omega
  · rcases hN B hi with h1 | h1
    · exact hG h1
    · omega
/-- the reference's window has turned -/
theorem pl_ref (C : WinCon Pw) {s : Ws} {v : Value} {x : Ending} (h : PlS Pw w0 W g r m G Gr t q c s1 s2) (hb : Blk W B 36 #[.int .i64 k, .int .i64 n]) (hG : ¬ G B) (hGr : ¬ Gr B) (hm : B ≠ m) (hz : s.sz ≤ 1048576) (hl : s.l.length ≤ c + 1) (hc : c + 1 ≤ 1000000)
    (hx : OwnPost (fun w' G' => Wr w' r G' s) W Gr v x W') : x = .returned v ∧ Pl Pw w0 W' g r m B k n q (c + 1) s1 s := by
  obtain ⟨rfl, G', hP, hN, hO⟩ := hx
  have hlt := hb.lt
  have hml := h.tt.lt
  refine ⟨rfl, G, G', t, ⟨C.only h.p hO (fun i hi hg => h.d i hi hg), hP, Blk.only h.tt hO h.m2, h.f, fun i hi hr => ?_, h.m1, fun hi => ?_, h.b1, con_new h.bel.size (Below.refl _ W) (fun i hi => h.b2 i hi) hN, h.b3, con_below (Nat.le_refl _) h.bel h.b2 hO, h.z1, hz, by have := h.l1; omega, hl, hc⟩, hb.only hO hGr, hG, fun hi => ?_, hm⟩
  · rcases hN i hr with h1 | h1
    · exact h.d i hi h1
    · have := C.old h.p hi; omega
  · rcases hN m hi with h1 | h1
    · exact h.m2 h1
    · omega
  · rcases hN B hi with h1 | h1
    · exact hGr h1
    · omega

theorem pl_put (C : WinCon Pw) {b : UInt8} (h : Pl Pw w0 W g r m B k n q c s1 s2) (hc : c + 1 ≤ 1000000) :
    Calls Try.prog 11 #[.pointer (some ⟨g, 0, none⟩), .int .u8 (b.toNat : Int)] W fun x W' => x = .returned (.tuple #[]) ∧ Pl Pw w0 W' g r m B k n q (c + 1) (s1.put b) s2 := by
  obtain ⟨G, Gr, t, h, hb, hG, hGr, hm⟩ := h
  refine (C.put (b := b) h.p h.z1 (by have := h.l1; omega)).mono fun x W' hx => pl_win h hb hG hGr hm (by rw [put_sz]; exact h.z1) ?_ hc hx
  have := put_len (s := s1) b; have := h.l1; omega
theorem pl_copy (C : WinCon Pw) {d : Int} (h : Pl Pw w0 W g r m B k n q c s1 s2) (hc : c + 1 ≤ 1000000) (h0 : -9223372036854775808 ≤ d) (h1 : d ≤ 9223372036854775807) :
    Calls Try.prog 14 #[.pointer (some ⟨g, 0, none⟩), .int .i64 d] W fun x W' => x = .returned (.int .u8 ((s1.at_ d).toNat : Int)) ∧ Pl Pw w0 W' g r m B k n q (c + 1) (s1.copy d) s2 := by
  obtain ⟨G, Gr, t, h, hb, hG, hGr, hm⟩ := h
  refine (C.copy (d := d) h.p h.z1 (by have := h.l1; omega) h0 h1).mono fun x W' hx => pl_win h hb hG hGr hm (by rw [copy_sz]; exact h.z1) ?_ hc hx
  have := copy_len (s := s1) d; have := h.l1; omega
theorem pl_empty (C : WinCon Pw) (h : Pl Pw w0 W g r m B k n q c s1 s2) (hc : c + 1 ≤ 1000000) :
    Calls Try.prog 16 #[.pointer (some ⟨g, 0, none⟩)] W fun x W' => x = .returned (.tuple #[]) ∧ Pl Pw w0 W' g r m B k n q (c + 1) s1.empty s2 := by
  obtain ⟨G, Gr, t, h, hb, hG, hGr, hm⟩ := h
  exact (C.empty h.p h.z1).mono fun x W' hx => pl_win h hb hG hGr hm (by exact h.z1) (by show 0 ≤ _; omega) hc hx
theorem pl_close (C : WinCon Pw) (h : Pl Pw w0 W g r m B k n q c s1 s2) :
    Calls Try.prog 17 #[.pointer (some ⟨g, 0, none⟩)] W fun x W' => x = .returned (.tuple #[]) ∧ Pl Pw w0 W' g r m B k n q c s1.close s2 := by
  obtain ⟨G, Gr, t, h, hb, hG, hGr, hm⟩ := h
  have hlt := hb.lt
  have hml := h.tt.lt
  refine (C.close h.p h.z1 h.tt h.f h.m1).mono ?_
  rintro x W' ⟨rfl, G', hP, hM, hN, hO⟩
  refine ⟨rfl, G', Gr, _, ⟨hP, h.e.only hO (fun i hi hg => ?_), hM, ?_, fun i hi hr => ?_, fun hi => ?_, h.m2, con_new h.bel.size (Below.refl _ W) (fun i hi => h.b1 i hi) hN, h.b2, h.b3, h.bel.trans (hO.below h.bel.size (fun i hi => ?_)), h.z1, h.z2, h.l1, h.l2, h.c⟩, hb.only hO (fun hi => ?_), fun hi => ?_, hGr, hm⟩
  · rcases hg with hg | hg
    · exact h.d i hg hi
    · subst hg; exact h.m2 hi
  · split
    · exact h.f
    · exact h.f.free _
  · rcases hN i hi with h1 | h1
    · exact h.d i h1 hr
    · have := h.e.old hr; omega
  · rcases hN m hi with h1 | h1
    · exact h.m1 h1
    · omega
  · rcases hi with hi | hi
    · exact h.b1 i hi
    · have := h.b3; omega
  · rcases hi with hi | hi
    · exact hG hi
    · exact hm hi
  · rcases hN B hi with h1 | h1
    · exact hG h1
    · omega
theorem pl_rput (C : WinCon Pw) {b : UInt8} (h : Pl Pw w0 W g r m B k n q c s1 s2) (hc : c + 1 ≤ 1000000) :
    Calls Try.prog 12 #[.pointer (some ⟨r, 0, none⟩), .int .u8 (b.toNat : Int)] W fun x W' => x = .returned (.tuple #[]) ∧ Pl Pw w0 W' g r m B k n q (c + 1) s1 (s2.put b) := by
  obtain ⟨G, Gr, t, h, hb, hG, hGr, hm⟩ := h
  refine (rwput_any (b := b) h.e (by have := h.l2; omega)).mono fun x W' hx => pl_ref C h hb hG hGr hm (by rw [put_sz]; exact h.z2) ?_ hc hx
  have := put_len (s := s2) b; have := h.l2; omega
/-- the law turns the reference's window by itself -/
theorem pl_own (C : WinCon Pw) {s : Ws} {i : Nat} {u : Value} (h : Pl Pw w0 W g r m B k n q c s1 s2) (hs : ∀ Gr, Wr W r Gr s2 → Wr (W.setCell ⟨r, i, none⟩ u) r Gr s) (hz : s.sz ≤ 1048576) (hl : s.l.length ≤ s2.l.length) : Pl Pw w0 (W.setCell ⟨r, i, none⟩ u) g r m B k n q c s1 s := by
  obtain ⟨G, Gr, t, h, hb, hG, hGr, hm⟩ := h
  have hr := h.e.own
  have hO := (Only.refl (fun j => j = r) W).setCell (p := ⟨r, i, none⟩) (.inl rfl) u
  refine ⟨G, Gr, t, ⟨C.only h.p hO (fun j hj e => h.d j hj (e ▸ hr)), hs _ h.e, Blk.only h.tt hO (fun e => h.m2 (e ▸ hr)), h.f, h.d, h.m1, h.m2, h.b1, h.b2, h.b3, h.bel.trans (hO.below h.bel.size (fun j hj => by have := h.b2 r hr; omega)), h.z1, hz, h.l1, by have := h.l2; omega, h.c⟩, hb.only hO (fun e => hGr (e ▸ hr)), hG, hGr, hm⟩
theorem pl_rempty (C : WinCon Pw) (h : Pl Pw w0 W g r m B k n q c s1 s2) : Pl Pw w0 (W.setCell ⟨r, 1, none⟩ (.slice none 0 0)) g r m B k n q c s1 s2.empty :=
  pl_own C h (fun _ h => h.empty) (by obtain ⟨_, _, _, h, _⟩ := h; exact h.z2) (Nat.zero_le _)
theorem pl_rclose (C : WinCon Pw) (h : Pl Pw w0 W g r m B k n q c s1 s2) : Pl Pw w0 (W.setCell ⟨r, 2, none⟩ (.bool true)) g r m B k n q c s1 s2.close :=
  pl_own C h (fun _ h => h.close) (by obtain ⟨_, _, _, h, _⟩ := h; exact h.z2) (Nat.le_refl _)

theorem pl_has (C : WinCon Pw) {d : Int} (h : Pl Pw w0 W g r m B k n q c s1 s2) (h0 : -9223372036854775808 ≤ d) (h1 : d ≤ 9223372036854775807) (j : Nat) :
    Calls Try.prog 18 #[.pointer (some ⟨g, 0, none⟩), .int .i64 d] (W.drewN j) fun x w' => x = .returned (.bool (s1.has d)) ∧ ∃ k, (W.drewN j).drewN k = w' := by
  obtain ⟨_, _, _, h, _⟩ := h
  exact C.has (C.drewN h.p j) h.z1 h0 h1
theorem pl_at (C : WinCon Pw) {d : Int} (h : Pl Pw w0 W g r m B k n q c s1 s2) (h0 : -9223372036854775808 ≤ d) (h1 : d ≤ 9223372036854775807) (j : Nat) :
    Calls Try.prog 19 #[.pointer (some ⟨g, 0, none⟩), .int .i64 d] (W.drewN j) fun x w' => x = .returned (.int .u8 ((s1.at_ d).toNat : Int)) ∧ ∃ k, (W.drewN j).drewN k = w' := by
  obtain ⟨_, _, _, h, _⟩ := h
  exact C.at_ (C.drewN h.p j) h.z1 h0 h1
theorem pl_count (C : WinCon Pw) (h : Pl Pw w0 W g r m B k n q c s1 s2) (j : Nat) :
    Calls Try.prog 20 #[.pointer (some ⟨g, 0, none⟩)] (W.drewN j) fun x w' => x = .returned (.int .i64 (s1.count : Int)) ∧ ∃ k, (W.drewN j).drewN k = w' := by
  obtain ⟨_, _, _, h, _⟩ := h
  exact C.count (C.drewN h.p j) h.z1
theorem pl_rhas {d : Int} (h : Pl Pw w0 W g r m B k n q c s1 s2) (j : Nat) :
    Calls Try.prog 15 #[.pointer (some ⟨r, 0, none⟩), .int .i64 d] (W.drewN j) fun x w' => x = .returned (.bool (s2.has d)) ∧ ∃ k, (W.drewN j).drewN k = w' := by
  obtain ⟨_, _, _, h, _⟩ := h
  exact (rwhas_any (h.e.drewN j) h.z2 (by have := h.l2; have := h.c; omega)).mono fun _ _ ⟨hx, hw⟩ => ⟨hx, 0, hw⟩
theorem pl_rat {d : Int} (h : Pl Pw w0 W g r m B k n q c s1 s2) (j : Nat) :
    Calls Try.prog 13 #[.pointer (some ⟨r, 0, none⟩), .int .i64 d] (W.drewN j) fun x w' => x = .returned (.int .u8 ((s2.at_ d).toNat : Int)) ∧ ∃ k, (W.drewN j).drewN k = w' := by
  obtain ⟨_, _, _, h, _⟩ := h
  exact rwat_any (h.e.drewN j) h.z2 (by have := h.l2; have := h.c; omega)
theorem pl_rcount (h : Pl Pw w0 W g r m B k n q c s1 s2) (j : Nat) :
    Calls Try.prog 21 #[.pointer (some ⟨r, 0, none⟩)] (W.drewN j) fun x w' => x = .returned (.int .i64 (s2.count : Int)) ∧ ∃ k, (W.drewN j).drewN k = w' := by
  obtain ⟨_, _, _, h, _⟩ := h
  exact rwcount_any (h.e.drewN j) h.z2 (by have := h.l2; have := h.c; omega)
end
end Go.Proofs.Ytnokbibkjhhcoaa
