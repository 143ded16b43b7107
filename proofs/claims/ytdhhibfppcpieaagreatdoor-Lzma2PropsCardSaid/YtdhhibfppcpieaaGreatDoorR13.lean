/-
  WnOne, WnCopy: put together.
-/
import Derived.Test.YtdhhibfppcpieaaGreatDoorR12
set_option linter.unusedVariables false
set_option linter.unusedSimpArgs false
/-
  The program's window: a byte is put, or copied.
-/
namespace Go.Proofs.YtdhhibfppcpieaaGreatDoor
open Go.RowKit

/-- the window behind the stores of a put -/
def putW (w : World) (g r nx : Nat) (b : UInt8) (last nw : Int) (wrap : Bool) : World :=
  let w1 := (w.setCell ⟨r, nx, none⟩ (.int .u8 (b.toNat : Int))).setCell ⟨g, 2, none⟩ (.int .i64 last)
  let w2 := if wrap = true then w1.setCell ⟨g, 2, none⟩ (.int .i64 0) else w1
  w2.setCell ⟨g, 3, none⟩ (.int .i64 nw)

section
variable {w w' : World} {g m : Nat} {G : Nat → Prop} {s : Ws} {ring : List UInt8} {b : UInt8}

theorem wbv_set (l : List UInt8) (k : Nat) (b : UInt8) : ((bv l).toArray.setIfInBounds k (.int .u8 (b.toNat : Int))) = (bv (l.set k b)).toArray := by
  simp [bv, List.map_set]

theorem put_count (h : s.shut = false) (b : UInt8) : (((s.put b).count : Nat) : Int) = min ((s.count : Int) + 1) (s.sz : Int) := by
  rw [open_put h, open_count h, open_count rfl]
  simp only [List.length_append, List.length_singleton]
  omega

/-- where a byte is put: the facts of the walk, and its end -/
theorem put_facts {nx : Nat} (h : Po w g G m s ring) (hx : s.l.length % s.sz = nx) (hn : nx < ring.length) :
    ∃ r c old, w.cell? ⟨g, 0, none⟩ = some (.int .i64 (s.sz : Int)) ∧ w.cell? ⟨g, 1, none⟩ = some (.slice (some ⟨r, 0, none⟩) ring.length c) ∧
      w.cell? ⟨g, 2, none⟩ = some (.int .i64 (nx : Int)) ∧ w.cell? ⟨g, 3, none⟩ = some (.int .i64 (s.count : Int)) ∧
      w.cell? ⟨r, nx, none⟩ = some old ∧ w.frozen? ⟨r, nx, none⟩ = false ∧ w.frozen? ⟨g, 2, none⟩ = false ∧ w.frozen? ⟨g, 3, none⟩ = false ∧ r ≠ g ∧
      ∀ wrap : Bool, (wrap = true ↔ nx + 1 = s.sz) →
        Pwin (putW w g r nx b ((nx : Int) + 1) (min ((s.count : Int) + 1) (s.sz : Int)) wrap) g G m (s.put b) ∧
        Only G w (putW w g r nx b ((nx : Int) + 1) (min ((s.count : Int) + 1) (s.sz : Int)) wrap) := by
  subst hx
  obtain ⟨h1, h2, h3, h4, A, c, hB, hR⟩ := h
  rcases hR with ⟨rfl, _⟩ | ⟨r, rfl, rfl, hr, hGr, hrg⟩
  · exact absurd hn (by simp)
  · refine ⟨r, ring.length, (.int .u8 ((ring.getD (s.l.length % s.sz) 0).toNat : Int)), hB.cell 0, hB.cell 1, hB.cell 2, hB.cell 3, ?_, hr.free _, hB.free 2, hB.free 3, hrg, ?_⟩
    · rw [hr.cell]
      have := bv_get ring _ hn
      simpa using this
    · intro wrap hwr
      have hm := mod_next (n := s.l.length) h2.1
      have hOr : ∀ (S : Nat → Prop) (u : Value), S r → Only S w (w.setCell ⟨r, s.l.length % s.sz, none⟩ u) := fun S u hS => (Only.refl S w).setCell (p := ⟨r, s.l.length % s.sz, none⟩) (.inl hS) u
      have hB1 : Blk (w.setCell ⟨r, s.l.length % s.sz, none⟩ (.int .u8 (b.toNat : Int))) g _ _ := hB.only (hOr (fun i => i = r) _ rfl) hrg.symm
      have hr1 := hr.put (s.l.length % s.sz) (.int .u8 (b.toNat : Int))
      rw [wbv_set] at hr1
      have hO1 := hOr G (.int .u8 (b.toNat : Int)) hGr
      have hl1 : ∀ i, G i → i < (w.setCell ⟨r, s.l.length % s.sz, none⟩ (.int .u8 (b.toNat : Int))).heap.size := fun i hi => by have := h4 i hi; simpa [World.setCell] using this
      unfold putW
      generalize w.setCell ⟨r, s.l.length % s.sz, none⟩ (.int .u8 (b.toNat : Int)) = w1 at *
      have hring : RingOk (s.put b) (ring.set (s.l.length % s.sz) b) := by
        rw [open_put h1]
        have := ring_put (b := b) h2 hn
        rw [h1] at this
        exact this
      have hlen : (s.put b).l.length = s.l.length + 1 := by rw [open_put h1]; simp
      have hsz : (s.put b).sz = s.sz := put_sz b
      have key : ∀ w2 : World, Only (fun i => i = g) w1 w2 → Blk w2 g 159 (wnCells (s.sz : Int) (some ⟨r, 0, none⟩) ring.length ring.length (((s.l.length + 1) % s.sz : Nat) : Int) (min ((s.count : Int) + 1) (s.sz : Int)) (some ⟨m, 0, none⟩)) → Pwin w2 g G m (s.put b) ∧ Only G w w2 := by
        intro w2 hO2 hB2
        refine ⟨.inl ⟨ring.set (s.l.length % s.sz) b, by rw [open_put h1], hring, h3, fun i hi => Nat.lt_of_lt_of_le (hl1 i hi) hO2.size, some ⟨r, 0, none⟩, ring.length, ?_, .inr ⟨r, rfl, by simp, hr1.only hO2 hrg, hGr, hrg⟩⟩, hO1.trans (hO2.mono (by rintro i rfl; exact h3))⟩
        rw [put_count h1, hsz, hlen, List.length_set]
        exact hB2
      have hOg : ∀ (W : World) (k : Nat) (u : Value), Only (fun i => i = g) W (W.setCell ⟨g, k, none⟩ u) := fun W k u => (Only.refl (fun i => i = g) W).setCell (p := ⟨g, k, none⟩) (.inl rfl) u
      cases wrap with
      | true =>
        have hw := hwr.1 rfl
        rw [if_pos hw] at hm
        simp only [if_true]
        refine key _ (((hOg _ 2 _).trans (hOg _ 2 _)).trans (hOg _ 3 _)) ?_
        rw [hm]
        exact ((hB1.put 2 (.int .i64 ((s.l.length % s.sz : Nat) + 1 : Int))).put 2 (.int .i64 0)).put 3 (.int .i64 (min ((s.count : Int) + 1) (s.sz : Int)))
      | false =>
        have hw : ¬ s.l.length % s.sz + 1 = s.sz := fun h => by have := hwr.2 h; cases this
        rw [if_neg hw] at hm
        simp only [Bool.false_eq_true, if_false]
        refine key _ ((hOg _ 2 _).trans (hOg _ 3 _)) ?_
        rw [hm]
        exact (hB1.put 2 (.int .i64 ((s.l.length % s.sz : Nat) + 1 : Int))).put 3 (.int .i64 (min ((s.count : Int) + 1) (s.sz : Int)))

set_option maxRecDepth 100000 in
set_option maxHeartbeats 4000000 in
theorem wput_any (h : Pwin w g G m s) (hz : s.sz ≤ 1048576) (hl : s.l.length ≤ 1000000000) :
    Calls Tryz.prog 100 #[.pointer (some ⟨g, 0, none⟩), .int .u8 (b.toNat : Int)] w (OwnPost (fun w' G' => Pwin w' g G' m (s.put b)) w G (.tuple #[])) := by
  rcases h with ⟨ring, h⟩ | h
  · have hsz := h.2.1.1
    have hle := h.2.1.2.1
    have hle2 := h.2.1.2.2.1
    have hnz : s.l.length % s.sz < s.sz := Nat.mod_lt _ hsz
    obtain ⟨nx, hx⟩ : ∃ nx, s.l.length % s.sz = nx := ⟨_, rfl⟩
    rw [hx] at hnz hle2
    have hcs : s.count ≤ s.sz := count_le
    have z0 : ((s.sz : Int) == 0) = false := by simp; omega
    have e1 : IntKind.i64.wrap ((nx : Int) + 1) = (nx : Int) + 1 := IntWalk.i64_in _ (by omega)
    have e2 : IntKind.i64.wrap ((s.count : Int) + 1) = (s.count : Int) + 1 := IntWalk.i64_in _ (by omega)
    by_cases hf : nx = ring.length
    · have K := Lib.hid (fun n => wgrow_any (w := w.drewN n) (g := g) (m := m) (G := G) (s := s) (ring := ring) h hz (by omega))
      have q0 : ((nx : Int) == (ring.length : Int)) = true := by rw [hf]; simp
      obtain ⟨A, c, hB, _⟩ := h.2.2.2.2
      rw [hx] at hB
      have c0 : w.cell? ⟨g, 0, none⟩ = some (.int .i64 (s.sz : Int)) := hB.cell 0
      have c1 : w.cell? ⟨g, 1, none⟩ = some (.slice A ring.length c) := hB.cell 1
      have c2 : w.cell? ⟨g, 2, none⟩ = some (.int .i64 (nx : Int)) := hB.cell 2
      have HF := Lib.hid hf
      have HG := Lib.hid h.2.2.1
      clear hB h hf hle hle2 hz hl hsz hcs hnz
      go_enter Tryz.func100, Tryz.ntmps100
      go_wp2_with fail
      go_region
      go_wp2_with fail
      refine (K.out _).mono ?_
      rintro y w1 ⟨rfl, ring', G1, hP, hlt, hG1, hO⟩
      have HP := Lib.hid hP
      have HN : Hid (nx < ring'.length) := Lib.hid (by have := HF.out; omega)
      have HG1 : Hid (∀ i, G1 i → G i ∨ w.heap.size ≤ i) := Lib.hid hG1
      have HO1 : Hid (∀ w2, Only G1 w1 w2 → Only G w w2) := Lib.hid (fun w2 h2 => (Only.of_drewN (hO.mono (S' := G) (by rintro i rfl; exact HG.out))).trans' h2 hG1)
      clear hP hlt hG1 hO c0 c1 c2 K q0 HF HG
      go_wp2_with fail
      obtain ⟨r, c', old, c0, c1, c2, c3, cr, fr, f2, f3, hrg, hend⟩ := put_facts (b := b) HP.out hx HN.out
      have i0 : (0 : Int) ≤ (nx : Int) := by omega
      have i1 : (nx : Int) < (ring'.length : Int) := by have := HN.out; omega
      have hgr : g ≠ r := fun e => hrg e.symm
      by_cases hw : nx + 1 = s.sz
      · have q1 : (((nx : Int) + 1) == (s.sz : Int)) = true := by simp; omega
        have HE := Lib.hid (hend true (by simp [hw]))
        clear hend hw HP HN
        go_region
        go_wp2_with fail
        go_region
        go_wp2_with fail
        go_region
        go_wp2_with fail
        first | go_end0 | refine bodyPost_ret (results_none rfl _ _ _) rfl ?_
        exact ⟨rfl, G1, HE.out.1, HG1.out, HO1.out _ HE.out.2.drew.drew.drew⟩
      · have q1 : (((nx : Int) + 1) == (s.sz : Int)) = false := by simp; omega
        have HE := Lib.hid (hend false (by simp [hw]))
        clear hend hw HP HN
        go_region
        go_wp2_with fail
        go_region
        go_wp2_with fail
        go_region
        go_wp2_with fail
        first | go_end0 | refine bodyPost_ret (results_none rfl _ _ _) rfl ?_
        exact ⟨rfl, G1, HE.out.1, HG1.out, HO1.out _ HE.out.2.drew.drew.drew⟩
    · have q0 : ((nx : Int) == (ring.length : Int)) = false := by simp; omega
      have HP := Lib.hid h
      have HN : Hid (nx < ring.length) := Lib.hid (by omega)
      obtain ⟨A, c, hB, _⟩ := h.2.2.2.2
      rw [hx] at hB
      have c0 : w.cell? ⟨g, 0, none⟩ = some (.int .i64 (s.sz : Int)) := hB.cell 0
      have c1 : w.cell? ⟨g, 1, none⟩ = some (.slice A ring.length c) := hB.cell 1
      have c2 : w.cell? ⟨g, 2, none⟩ = some (.int .i64 (nx : Int)) := hB.cell 2
      clear hB h hf hle hle2 hz hl hsz hcs hnz
      go_enter Tryz.func100, Tryz.ntmps100
      go_wp2_with fail
      go_region
      go_wp2_with fail
      clear c0 c1 c2
      obtain ⟨r, c', old, c0, c1, c2, c3, cr, fr, f2, f3, hrg, hend⟩ := put_facts (b := b) HP.out hx HN.out
      have i0 : (0 : Int) ≤ (nx : Int) := by omega
      have i1 : (nx : Int) < (ring.length : Int) := by have := HN.out; omega
      have hgr : g ≠ r := fun e => hrg e.symm
      by_cases hw : nx + 1 = s.sz
      · have q1 : (((nx : Int) + 1) == (s.sz : Int)) = true := by simp; omega
        have HE := Lib.hid (hend true (by simp [hw]))
        clear hend hw HP HN
        go_region
        go_wp2_with fail
        go_region
        go_wp2_with fail
        go_region
        go_wp2_with fail
        first | go_end0 | refine bodyPost_ret (results_none rfl _ _ _) rfl ?_
        exact ⟨rfl, G, HE.out.1, fun i hi => .inl hi, HE.out.2.drew.drew.drew.drew⟩
      · have q1 : (((nx : Int) + 1) == (s.sz : Int)) = false := by simp; omega
        have HE := Lib.hid (hend false (by simp [hw]))
        clear hend hw HP HN
        go_region
        go_wp2_with fail
        go_region
        go_wp2_with fail
        go_region
        go_wp2_with fail
        first | go_end0 | refine bodyPost_ret (results_none rfl _ _ _) rfl ?_
        exact ⟨rfl, G, HE.out.1, fun i hi => .inl hi, HE.out.2.drew.drew.drew.drew⟩
  · have c0 : w.cell? ⟨g, 0, none⟩ = some (.int .i64 0) := h.2.2.2.cell 0
    have HX := Lib.hid h
    rw [shut_put h.1]
    clear h hz hl
    go_enter Tryz.func100, Tryz.ntmps100
    go_wp2_with fail
    first | go_end0 | refine bodyPost_ret (results_none rfl _ _ _) rfl ?_
    exact ⟨rfl, G, .inr HX.out, fun i hi => .inl hi, Only.refl _ _⟩
end
end Go.Proofs.YtdhhibfppcpieaaGreatDoor

/-
  The program's window: a copy, a new one.
-/
namespace Go.Proofs.YtdhhibfppcpieaaGreatDoor
open Go.RowKit

section
variable {w w' : World} {g m : Nat} {G : Nat → Prop} {s : Ws}

set_option maxRecDepth 100000 in
set_option maxHeartbeats 1000000 in
theorem wnew7_any {q : Quo} {t : Tel} {n : Int} (hM : MeterAt w 88 m q t) (hF : Fine q t) (h0 : -9223372036854775808 ≤ n) (h1 : n ≤ 1048576) (hfit : fits t.code t.mem q.mem (max n 1)) :
    Calls Tryz.prog 62 #[.int .i64 n, .pointer (some ⟨m, 0, none⟩)] w fun x w' =>
      ∃ g G, x = .returned (.tuple #[.pointer (some ⟨g, 0, none⟩), .int .i64 0]) ∧ Pwin w' g G m (Ws.new n) ∧ MeterAt w' 88 m q (t.doMem q (max n 1)) ∧ (∀ i, G i → w.heap.size ≤ i) ∧ Only (fun i => i = m) w w' := by
  have K := Lib.hid (mem_any hM hF (max n 1))
  have hd : decide (fits t.code t.mem q.mem (max n 1)) = true := by simp [hfit]
  rw [hd] at K
  have hend : ∀ w1 : World, MeterAt w1 88 m q (t.doMem q (max n 1)) → w.grownBy w1 (some m) →
      Pwin (w1.alloc (.cells #[.int .i64 (max n 1), .slice none 0 0, .int .i64 0, .int .i64 0, .pointer (some ⟨m, 0, none⟩)] 159)) w1.heap.size (fun i => i = w1.heap.size) m (Ws.new n) ∧
        MeterAt (w1.alloc (.cells #[.int .i64 (max n 1), .slice none 0 0, .int .i64 0, .int .i64 0, .pointer (some ⟨m, 0, none⟩)] 159)) 88 m q (t.doMem q (max n 1)) ∧ (∀ i, i = w1.heap.size → w.heap.size ≤ i) ∧
        Only (fun i => i = m) w (w1.alloc (.cells #[.int .i64 (max n 1), .slice none 0 0, .int .i64 0, .int .i64 0, .pointer (some ⟨m, 0, none⟩)] 159)) := by
    intro w1 hM1 hg
    refine ⟨.inl ⟨[], rfl, ring_new h1, rfl, ?_, none, 0, ?_, .inl ⟨rfl, rfl, rfl⟩⟩, hM1.alloc _, ?_, (Only.of_grown (S := fun i => i = m) hg rfl).alloc _⟩
    · rintro i rfl
      simp
    · have e : (((Ws.new n).sz : Nat) : Int) = max n 1 := by show (((max n 1).toNat : Nat) : Int) = _; omega
      have e2 : (Ws.new n).l.length % (Ws.new n).sz = 0 := Nat.zero_mod _
      have e3 : (Ws.new n).count = 0 := by unfold Ws.count Ws.new; simp
      rw [e, e2, e3]
      exact Blk.fresh w1 _ _
    · rintro i rfl
      exact hg.size
  have HE := Lib.hid hend
  clear hend hM hF h0 h1 hfit hd
  go_enter Tryz.func62, Tryz.ntmps62
  go_wp2_with fail
  refine K.out.mono ?_
  rintro y w1 ⟨rfl, hM1, hg⟩
  have HX := Lib.hid (HE.out w1 hM1 hg)
  clear hM1 hg K HE
  go_wp2_with fail
  go_ret2
  exact ⟨_, _, rfl, HX.out.1, HX.out.2.1, HX.out.2.2.1, HX.out.2.2.2⟩

set_option maxRecDepth 100000 in
set_option maxHeartbeats 1000000 in
theorem wshort7_any {q : Quo} {t : Tel} {n : Int} (hM : MeterAt w 88 m q t) (hF : Fine q t) (hfit : ¬ fits t.code t.mem q.mem (max n 1)) :
    Calls Tryz.prog 62 #[.int .i64 n, .pointer (some ⟨m, 0, none⟩)] w fun x w' =>
      x = .returned (.tuple #[.pointer none, .int .i64 (t.doMem q (max n 1)).code]) ∧ MeterAt w' 88 m q (t.doMem q (max n 1)) ∧ Only (fun i => i = m) w w' := by
  have K := Lib.hid (mem_any hM hF (max n 1))
  have hd : decide (fits t.code t.mem q.mem (max n 1)) = false := by simp [hfit]
  rw [hd] at K
  obtain ⟨cd, hcd⟩ : ∃ cd, cd = (t.doMem q (max n 1)).code := ⟨_, rfl⟩
  rw [← hcd]
  have HC := Lib.hid hcd
  clear hM hF hfit hd hcd
  go_enter Tryz.func62, Tryz.ntmps62
  go_wp2_with fail
  refine K.out.mono ?_
  rintro y w1 ⟨rfl, hM1, hg⟩
  have KC := mcode_any hM1
  rw [← HC.out] at KC
  have HX := Lib.hid (And.intro hM1 (Only.of_grown (S := fun i => i = m) hg rfl))
  clear hM1 hg K HC
  go_wp2_with fail
  refine KC.mono ?_
  rintro y w2 ⟨rfl, rfl⟩
  clear KC
  go_wp2_with fail
  go_ret2
  exact ⟨rfl, HX.out.1, HX.out.2⟩
end
end Go.Proofs.YtdhhibfppcpieaaGreatDoor
