/-
  The program's window in memory; what it tells; it is emptied, and closed.
-/
import Derived.Test.YtnokbibkjhhcoaaWnCon
import Derived.Test.YtnokbibkjhhcoaaWnRing
import Derived.Test.YtnokbibkjhhcoaaWnRef
import Derived.Lib.MinMax
namespace Go.Proofs.Ytnokbibkjhhcoaa
open Go.RowKit

def wnCells (z : Int) (A : Option Addr) (n c : Nat) (nx ct : Int) (mp : Option Addr) : Array Value := #[.int .i64 z, .slice A n c, .int .i64 nx, .int .i64 ct, .pointer mp]

/-- The ring's row: none yet, or the whole of a block. -/
def RingAt (w : World) (g : Nat) (G : Nat → Prop) (A : Option Addr) (c : Nat) (ring : List UInt8) : Prop :=
  (ring = [] ∧ A = none ∧ c = 0) ∨ ∃ r, A = some ⟨r, 0, none⟩ ∧ c = ring.length ∧ Blk w r 5 (bv ring).toArray ∧ G r ∧ r ≠ g

/-- An open window, its ring at hand. -/
def Po (w : World) (g : Nat) (G : Nat → Prop) (m : Nat) (s : Ws) (ring : List UInt8) : Prop :=
  s.shut = false ∧ RingOk s ring ∧ G g ∧ (∀ i, G i → i < w.heap.size) ∧
    ∃ A c, Blk w g 53 (wnCells (s.sz : Int) A ring.length c ((s.l.length % s.sz : Nat) : Int) (s.count : Int) (some ⟨m, 0, none⟩)) ∧ RingAt w g G A c ring
/-- A closed one. -/
def Px (w : World) (g : Nat) (G : Nat → Prop) (s : Ws) : Prop :=
  s.shut = true ∧ G g ∧ (∀ i, G i → i < w.heap.size) ∧ Blk w g 53 (wnCells 0 none 0 0 0 0 none)
def Pwin (w : World) (g : Nat) (G : Nat → Prop) (m : Nat) (s : Ws) : Prop := (∃ ring, Po w g G m s ring) ∨ Px w g G s

section
variable {w w' : World} {g m : Nat} {G : Nat → Prop} {s : Ws} {ring : List UInt8}
theorem RingAt.only {S : Nat → Prop} {A : Option Addr} {c : Nat} (h : RingAt w g G A c ring) (hb : Only S w w') (hS : ∀ i, G i → i ≠ g → ¬ S i) : RingAt w' g G A c ring := by
  rcases h with h | ⟨r, e, ec, hB, hr, hn⟩
  · exact .inl h
  · exact .inr ⟨r, e, ec, hB.only hb (hS r hr hn), hr, hn⟩
theorem Po.only {S : Nat → Prop} (h : Po w g G m s ring) (hb : Only S w w') (hS : ∀ i, G i → ¬ S i) : Po w' g G m s ring := by
  obtain ⟨h1, h2, h3, h4, A, c, hB, hR⟩ := h
  exact ⟨h1, h2, h3, fun i hi => Nat.lt_of_lt_of_le (h4 i hi) hb.size, A, c, hB.only hb (hS g h3), hR.only hb (fun i hi _ => hS i hi)⟩
theorem Px.only {S : Nat → Prop} (h : Px w g G s) (hb : Only S w w') (hS : ∀ i, G i → ¬ S i) : Px w' g G s := by
  obtain ⟨h1, h3, h4, hB⟩ := h
  exact ⟨h1, h3, fun i hi => Nat.lt_of_lt_of_le (h4 i hi) hb.size, hB.only hb (hS g h3)⟩
theorem Pwin.only {S : Nat → Prop} (h : Pwin w g G m s) (hb : Only S w w') (hS : ∀ i, G i → ¬ S i) : Pwin w' g G m s := by
  rcases h with ⟨ring, h⟩ | h
  · exact .inl ⟨ring, h.only hb hS⟩
  · exact .inr (h.only hb hS)
theorem Pwin.old (h : Pwin w g G m s) {i : Nat} (hi : G i) : i < w.heap.size := by
  rcases h with ⟨ring, h⟩ | h
  · exact h.2.2.2.1 i hi
  · exact h.2.2.1 i hi
theorem Po.count_is (h : Po w g G m s ring) : s.count = min s.sz s.l.length := open_count h.1
theorem Pwin.cnt (h : Pwin w g G m s) : w.cell? ⟨g, 3, none⟩ = some (.int .i64 (s.count : Int)) := by
  rcases h with ⟨ring, _, _, _, _, A, c, hB, _⟩ | ⟨h1, _, _, hB⟩
  · exact hB.cell 3
  · rw [shut_count h1]; exact hB.cell 3
theorem has_cnt (d : Int) : s.has d = decide (0 ≤ d ∧ d < (s.count : Int)) := by
  cases hs : s.shut with
  | true => rw [shut_has hs, shut_count hs]; symm; simp
  | false =>
    rw [open_count hs]
    unfold Ws.has
    rw [hs]
    simp only [Bool.not_false, Bool.true_and, decide_eq_decide]
    omega

set_option maxHeartbeats 1000000 in
theorem whas_any {d : Int} (h : Pwin w g G m s) :
    Calls Try.prog 18 #[.pointer (some ⟨g, 0, none⟩), .int .i64 d] w fun x w' => x = .returned (.bool (s.has d)) ∧ w = w' := by
  have c3 := h.cnt
  rw [has_cnt]
  clear h
  generalize (s.count : Int) = n at *
  by_cases h1 : d ≥ 0
  · by_cases h2 : d < n
    · have e : decide (0 ≤ d ∧ d < n) = true := by simp; omega
      rw [e]
      go_enter Try.func18, Try.ntmps18
      go_wp2_with fail
      go_ret
      exact ⟨rfl, rfl⟩
    · have e : decide (0 ≤ d ∧ d < n) = false := by simp; omega
      rw [e]
      go_enter Try.func18, Try.ntmps18
      go_wp2_with fail
      go_ret
      exact ⟨rfl, rfl⟩
  · have e : decide (0 ≤ d ∧ d < n) = false := by simp; omega
    rw [e]
    go_enter Try.func18, Try.ntmps18
    go_wp2_with fail
    go_ret
    exact ⟨rfl, rfl⟩

set_option maxHeartbeats 1000000 in
theorem wcount_any (h : Pwin w g G m s) :
    Calls Try.prog 20 #[.pointer (some ⟨g, 0, none⟩)] w fun x w' => x = .returned (.int .i64 (s.count : Int)) ∧ w = w' := by
  have c3 := h.cnt
  clear h
  generalize (s.count : Int) = n at *
  go_enter Try.func20, Try.ntmps20
  go_wp2_with fail
  go_ret
  exact ⟨rfl, rfl⟩

set_option maxHeartbeats 1000000 in
theorem wplace_any {nx z d p : Int} (c0 : w.cell? ⟨g, 0, none⟩ = some (.int .i64 z)) (c2 : w.cell? ⟨g, 2, none⟩ = some (.int .i64 nx)) (hz : 0 ≤ z ∧ z ≤ 1048576) (hn : 0 ≤ nx ∧ nx ≤ 1048576) (hd : 0 ≤ d ∧ d ≤ 1048576)
    (hp : p = if nx - 1 - d < 0 then nx - 1 - d + z else nx - 1 - d) :
    Calls Try.prog 27 #[.pointer (some ⟨g, 0, none⟩), .int .i64 d] w fun x w' => x = .returned (.int .i64 p) ∧ w = w' := by
  have e1 : IntKind.i64.wrap (nx - 1) = nx - 1 := IntWalk.i64_in _ (by omega)
  have e2 : IntKind.i64.wrap (nx - 1 - d) = nx - 1 - d := IntWalk.i64_in _ (by omega)
  have e3 : IntKind.i64.wrap (nx - 1 - d + z) = nx - 1 - d + z := IntWalk.i64_in _ (by omega)
  by_cases h : nx - 1 - d < 0
  · rw [if_pos h] at hp
    subst hp
    clear hz hn hd
    go_enter Try.func27, Try.ntmps27
    go_wp2_with fail
    go_ret
    exact ⟨rfl, rfl⟩
  · rw [if_neg h] at hp
    subst hp
    clear hz hn hd
    go_enter Try.func27, Try.ntmps27
    go_wp2_with fail
    go_ret
    exact ⟨rfl, rfl⟩

set_option maxHeartbeats 1000000 in
theorem wat_any {d : Int} (h : Pwin w g G m s) (hz : s.sz ≤ 1048576) :
    Calls Try.prog 19 #[.pointer (some ⟨g, 0, none⟩), .int .i64 d] w fun x w' => x = .returned (.int .u8 ((s.at_ d).toNat : Int)) ∧ ∃ k, w.drewN k = w' := by
  have K := Lib.hid (whas_any (d := d) h)
  by_cases hh : s.has d = true
  · obtain ⟨hs, h0, h1, h2⟩ := has_iff.1 hh
    rcases h with ⟨ring, h⟩ | h
    · obtain ⟨_, hok, _, _, A, c, hB, hR⟩ := h
      obtain ⟨e, he⟩ : ∃ e : Nat, (e : Int) = d := ⟨d.toNat, by omega⟩
      subst he
      obtain ⟨p, hp, hv, hpi⟩ := ring_place (d := e) hok (by omega) (by omega)
      have hnz : s.l.length % s.sz < s.sz := Nat.mod_lt _ hok.1
      rcases hR with ⟨rfl, _⟩ | ⟨r, rfl, rfl, hBr, _, _⟩
      · exact absurd hp (by simp)
      · have c0 : w.cell? ⟨g, 0, none⟩ = some (.int .i64 (s.sz : Int)) := hB.cell 0
        have c1 : w.cell? ⟨g, 1, none⟩ = some (.slice (some ⟨r, 0, none⟩) ring.length ring.length) := hB.cell 1
        have c2 : w.cell? ⟨g, 2, none⟩ = some (.int .i64 ((s.l.length % s.sz : Nat) : Int)) := hB.cell 2
        have cx : w.cell? ⟨r, p, none⟩ = some (.int .u8 ((s.at_ (e : Int)).toNat : Int)) := by
          rw [hBr.cell p, at_has hh, Int.toNat_natCast, ← hv]
          have := bv_get ring p hp
          simpa using this
        have KP := Lib.hid (fun n => wplace_any (w := w.drewN n) (g := g) (p := (p : Int)) c0 c2 (by omega) (by omega) (by omega : (0 : Int) ≤ (e : Int) ∧ (e : Int) ≤ 1048576) hpi)
        have i0 : (0 : Int) ≤ (p : Int) := by omega
        have i1 : (p : Int) < (ring.length : Int) := by omega
        rw [hh] at K
        clear hB hBr hv hpi hh h0 h1 h2 hz hok hnz hs c0 c2 hp
        generalize s.at_ (e : Int) = x at *
        generalize ring.length = n at *
        go_enter Try.func19, Try.ntmps19
        go_wp2_with fail
        refine K.out.mono ?_
        rintro y w' ⟨rfl, rfl⟩
        clear K
        go_wp2_with fail
        go_quiet ((go_at_call 27; exact quiet_same_at (KP.out _)))
        go_wp2_with fail
        go_ret
        exact ⟨rfl, _, rfl⟩
    · rw [h.1] at hs; cases hs
  · have hf : s.has d = false := by simpa using hh
    rw [at_not hf]
    rw [hf] at K
    clear h hh hf hz
    go_enter Try.func19, Try.ntmps19
    go_wp2_with fail
    refine K.out.mono ?_
    rintro y w' ⟨rfl, rfl⟩
    clear K
    go_wp2_with fail
    go_ret
    exact ⟨rfl, 0, rfl⟩

theorem empty_count (s : Ws) : s.empty.count = 0 := by
  unfold Ws.count Ws.empty
  simp

set_option maxHeartbeats 1000000 in
theorem wempty_any (h : Pwin w g G m s) :
    Calls Try.prog 16 #[.pointer (some ⟨g, 0, none⟩)] w (OwnPost (fun w' G' => Pwin w' g G' m s.empty) w G (.tuple #[])) := by
  have hend : Pwin ((w.setCell ⟨g, 2, none⟩ (.int .i64 0)).setCell ⟨g, 3, none⟩ (.int .i64 0)) g G m s.empty ∧ Only G w ((w.setCell ⟨g, 2, none⟩ (.int .i64 0)).setCell ⟨g, 3, none⟩ (.int .i64 0)) := by
    have hg : G g := by
      rcases h with ⟨ring, h⟩ | h
      · exact h.2.2.1
      · exact h.2.1
    have hO : ∀ S : Nat → Prop, S g → Only S w ((w.setCell ⟨g, 2, none⟩ (.int .i64 0)).setCell ⟨g, 3, none⟩ (.int .i64 0)) := fun S hS => ((Only.refl S w).setCell (p := ⟨g, 2, none⟩) (.inl hS) _).setCell (p := ⟨g, 3, none⟩) (.inl hS) _
    refine ⟨?_, hO G hg⟩
    rcases h with ⟨ring, h1, h2, h3, h4, A, c, hB, hR⟩ | ⟨h1, h3, h4, hB⟩
    · refine .inl ⟨ring, h1, ring_empty h2, h3, fun i hi => by have := h4 i hi; simpa [World.setCell] using this, A, c, ?_, hR.only (hO (fun i => i = g) rfl) (fun i _ hn => hn)⟩
      have := (hB.put 2 (.int .i64 0)).put 3 (.int .i64 0)
      rw [empty_count]
      have e : s.empty.l.length % s.empty.sz = 0 := Nat.zero_mod _
      rw [e]
      exact this
    · exact .inr ⟨h1, h3, fun i hi => by have := h4 i hi; simpa [World.setCell] using this, (hB.put 2 (.int .i64 0)).put 3 (.int .i64 0)⟩
  obtain ⟨x2, x3, c2, c3, z2, z3⟩ : ∃ x2 x3 : Int, w.cell? ⟨g, 2, none⟩ = some (.int .i64 x2) ∧ w.cell? ⟨g, 3, none⟩ = some (.int .i64 x3) ∧ w.frozen? ⟨g, 2, none⟩ = false ∧ w.frozen? ⟨g, 3, none⟩ = false := by
    rcases h with ⟨ring, h1, h2, h3, h4, A, c, hB, hR⟩ | ⟨h1, h3, h4, hB⟩
    · exact ⟨_, _, hB.cell 2, hB.cell 3, hB.free 2, hB.free 3⟩
    · exact ⟨_, _, hB.cell 2, hB.cell 3, hB.free 2, hB.free 3⟩
  have HE := Lib.hid hend
  clear h hend
  go_enter Try.func16, Try.ntmps16
  go_wp2_with fail
  first | go_end0 | refine bodyPost_ret (results_none rfl _ _ _) rfl ?_
  exact ⟨rfl, G, HE.out.1, fun i hi => .inl hi, HE.out.2⟩

set_option maxHeartbeats 1000000 in
theorem wclose_any {q : Quo} {t : Tel} (h : Pwin w g G m s) (hz : s.sz ≤ 1048576) (hM : MeterAt w 60 m q t) (hF : Fine q t) (hm : ¬ G m) :
    Calls Try.prog 17 #[.pointer (some ⟨g, 0, none⟩)] w fun x w' =>
      x = .returned (.tuple #[]) ∧ ∃ G', Pwin w' g G' m s.close ∧ MeterAt w' 60 m q (if s.shut = true then t else t.doFree (s.sz : Int)) ∧ (∀ i, G' i → G i ∨ w.heap.size ≤ i) ∧ Only (fun i => G i ∨ i = m) w w' := by
  rcases h with ⟨ring, h1, h2, h3, h4, A, c, hB, hR⟩ | ⟨h1, h3, h4, hB⟩
  · have c0 : w.cell? ⟨g, 0, none⟩ = some (.int .i64 (s.sz : Int)) := hB.cell 0
    have c4 : w.cell? ⟨g, 4, none⟩ = some (.pointer (some ⟨m, 0, none⟩)) := hB.cell 4
    have z0 : ((s.sz : Int) == 0) = false := by have := h2.1; simp; omega
    have hgm : g ≠ m := fun e => hm (e ▸ h3)
    have K := Lib.hid (fun n => free_any (w := w.drewN n) (n := (s.sz : Int)) hM hF (by omega))
    rw [h1]
    simp only [Bool.false_eq_true, if_false]
    have hend : ∀ (w1 : World) (n : Nat), MeterAt w1 60 m q (t.doFree (s.sz : Int)) → (w.drewN n).grownBy w1 (some m) → Blk w1 g 53 (wnCells (s.sz : Int) A ring.length c ((s.l.length % s.sz : Nat) : Int) (s.count : Int) (some ⟨m, 0, none⟩)) ∧ (∀ i, G i → i < w1.heap.size) ∧ Only (fun i => G i ∨ i = m) w w1 := by
      intro w1 n hM1 hg
      exact ⟨Blk.grown (w := w.drewN n) hB hg (by intro e; injection e with e; exact hgm e), fun i hi => Nat.lt_of_lt_of_le (h4 i hi) hg.size, Only.of_drewN (Only.of_grown hg (.inr rfl))⟩
    have HE := Lib.hid hend
    have HG := Lib.hid h3
    have HN := Lib.hid hgm
    clear h1 h2 h3 h4 hB hR hend hM hF hm hgm hz
    go_enter Try.func17, Try.ntmps17
    go_wp2_with fail
    go_region_law ((go_simp; go_at_call 26; refine (K.out _).mono ?_; rintro x w1 ⟨rfl, hM1, hg⟩; have HM := Lib.hid hM1; have HB := Lib.hid (HE.out _ _ hM1 hg); clear hM1 hg))
    all_goals
      obtain ⟨hB1, hl1, hO1⟩ := HB.out
      have hgm := HN.out
      have hsh : MeterAt (((((w1.setCell ⟨g, 0, none⟩ (.int .i64 0)).setCell ⟨g, 1, none⟩ (.slice none 0 0)).setCell ⟨g, 2, none⟩ (.int .i64 0)).setCell ⟨g, 3, none⟩ (.int .i64 0)).setCell ⟨g, 4, none⟩ (.pointer none)) 60 m q (t.doFree (s.sz : Int)) :=
        Blk.far (Blk.far (Blk.far (Blk.far (Blk.far HM.out hgm.symm _) hgm.symm _) hgm.symm _) hgm.symm _) hgm.symm _
      have hOx : ∀ S : Nat → Prop, S g → Only S w1 (((((w1.setCell ⟨g, 0, none⟩ (.int .i64 0)).setCell ⟨g, 1, none⟩ (.slice none 0 0)).setCell ⟨g, 2, none⟩ (.int .i64 0)).setCell ⟨g, 3, none⟩ (.int .i64 0)).setCell ⟨g, 4, none⟩ (.pointer none)) := fun S hS =>
        (((((Only.refl S w1).setCell (p := ⟨g, 0, none⟩) (.inl hS) _).setCell (p := ⟨g, 1, none⟩) (.inl hS) _).setCell (p := ⟨g, 2, none⟩) (.inl hS) _).setCell (p := ⟨g, 3, none⟩) (.inl hS) _).setCell (p := ⟨g, 4, none⟩) (.inl hS) _
      have hxx : Px (((((w1.setCell ⟨g, 0, none⟩ (.int .i64 0)).setCell ⟨g, 1, none⟩ (.slice none 0 0)).setCell ⟨g, 2, none⟩ (.int .i64 0)).setCell ⟨g, 3, none⟩ (.int .i64 0)).setCell ⟨g, 4, none⟩ (.pointer none)) g G s.close :=
        ⟨rfl, HG.out, fun i hi => by have := hl1 i hi; simpa [World.setCell] using this, ((((hB1.put 0 (.int .i64 0)).put 1 (.slice none 0 0)).put 2 (.int .i64 0)).put 3 (.int .i64 0)).put 4 (.pointer none)⟩
      have HX := Lib.hid (And.intro hxx (And.intro hsh (hO1.trans (hOx (fun i => G i ∨ i = m) (.inl HG.out)))))
      have d0 : w1.cell? ⟨g, 0, none⟩ = some (.int .i64 (s.sz : Int)) := hB1.cell 0
      have d1 : w1.cell? ⟨g, 1, none⟩ = some (.slice A ring.length c) := hB1.cell 1
      have d2 : w1.cell? ⟨g, 2, none⟩ = some (.int .i64 ((s.l.length % s.sz : Nat) : Int)) := hB1.cell 2
      have d3 : w1.cell? ⟨g, 3, none⟩ = some (.int .i64 (s.count : Int)) := hB1.cell 3
      have d4 : w1.cell? ⟨g, 4, none⟩ = some (.pointer (some ⟨m, 0, none⟩)) := hB1.cell 4
      have f0 := hB1.free 0
      have f1 := hB1.free 1
      have f2 := hB1.free 2
      have f3 := hB1.free 3
      have f4 := hB1.free 4
      clear K HE HB HM hB1 hl1 hO1 hgm hsh hOx hxx c0 c4
      go_wp2_with fail
      first | go_end0 | refine bodyPost_ret (results_none rfl _ _ _) rfl ?_
      exact ⟨rfl, G, .inr HX.out.1, HX.out.2.1, fun i hi => .inl hi, HX.out.2.2⟩
  · have c0 : w.cell? ⟨g, 0, none⟩ = some (.int .i64 0) := hB.cell 0
    have hx : Px w g G s.close := ⟨rfl, h3, h4, hB⟩
    rw [h1]
    simp only [if_true]
    have HX := Lib.hid hx
    have HM := Lib.hid hM
    clear h1 h3 h4 hB hx hM hF hm hz
    go_enter Try.func17, Try.ntmps17
    go_wp2_with fail
    first | go_end0 | refine bodyPost_ret (results_none rfl _ _ _) rfl ?_
    exact ⟨rfl, G, .inr HX.out, HM.out, fun i hi => .inl hi, Only.refl _ _⟩
end
end Go.Proofs.Ytnokbibkjhhcoaa
