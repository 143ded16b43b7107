/-
  WnOne, WnCopy, LwMem, PkSt, PkRow, LwMid: put together.
-/
import Derived.Test.YtpdpbbmkicemdaaGreatMc05
import Derived.Test.YtpdpbbmkicemdaaGreatMc04
import Derived.Test.YtpdpbbmkicemdaaGreatMc01
import Derived.Deep.Cut
import Derived.Deep.RegionHeld3
set_option linter.unusedVariables false
set_option linter.unusedSimpArgs false
/-
  The program's window: a byte is put, or copied.
-/
namespace Go.Proofs.YtpdpbbmkicemdaaGreat
open Go.RowKit

/-- the window behind the stores of a put -/
def putW (w : World) (g r nx : Nat) (b : UInt8) (last nw : Int) (wrap : Bool) : World :=
  let w1 := (w.setCell ⟨r, nx, none⟩ (.int .u8 (b.toNat : Int))).setCell ⟨g, 2, none⟩ (.int .i64 last)
  let w2 := if wrap = true then w1.setCell ⟨g, 2, none⟩ (.int .i64 0) else w1
  w2.setCell ⟨g, 3, none⟩ (.int .i64 nw)

section
variable {w w' : World} {g m : Nat} {G : Nat → Prop} {s : Ws} {ring : List UInt8} {b : UInt8}

theorem wbv_set (l : List UInt8) (k : Nat) (b : UInt8) : ((bv l).toArray.setIfInBounds k (.int .u8 (b.toNat : Int))) = (bv (l.set k b)).toArray := by
  simp [bv, List.map_set]

theorem put_count (h : s.shut = false) (b : UInt8) : (((s.put b).count : Nat) : Int) = min ((s.count : Int) + 1) (s.sz : Int) := by
  rw [open_put h, open_count h, open_count rfl]
  simp only [List.length_append, List.length_singleton]
  omega

/-- where a byte is put: the facts of the walk, and its end -/
theorem put_facts {nx : Nat} (h : Po w g G m s ring) (hx : s.l.length % s.sz = nx) (hn : nx < ring.length) :
    ∃ r c old, w.cell? ⟨g, 0, none⟩ = some (.int .i64 (s.sz : Int)) ∧ w.cell? ⟨g, 1, none⟩ = some (.slice (some ⟨r, 0, none⟩) ring.length c) ∧
      w.cell? ⟨g, 2, none⟩ = some (.int .i64 (nx : Int)) ∧ w.cell? ⟨g, 3, none⟩ = some (.int .i64 (s.count : Int)) ∧
      w.cell? ⟨r, nx, none⟩ = some old ∧ w.frozen? ⟨r, nx, none⟩ = false ∧ w.frozen? ⟨g, 2, none⟩ = false ∧ w.frozen? ⟨g, 3, none⟩ = false ∧ r ≠ g ∧
      ∀ wrap : Bool, (wrap = true ↔ nx + 1 = s.sz) →
        Pwin (putW w g r nx b ((nx : Int) + 1) (min ((s.count : Int) + 1) (s.sz : Int)) wrap) g G m (s.put b) ∧
        Only G w (putW w g r nx b ((nx : Int) + 1) (min ((s.count : Int) + 1) (s.sz : Int)) wrap) := by
  subst hx
  obtain ⟨h1, h2, h3, h4, A, c, hB, hR⟩ := h
  rcases hR with ⟨rfl, _⟩ | ⟨r, rfl, rfl, hr, hGr, hrg⟩
  · exact absurd hn (by simp)
  · refine ⟨r, ring.length, (.int .u8 ((ring.getD (s.l.length % s.sz) 0).toNat : Int)), hB.cell 0, hB.cell 1, hB.cell 2, hB.cell 3, ?_, hr.free _, hB.free 2, hB.free 3, hrg, ?_⟩
    · rw [hr.cell]
      have := bv_get ring _ hn
      simpa using this
    · intro wrap hwr
      have hm := mod_next (n := s.l.length) h2.1
      have hOr : ∀ (S : Nat → Prop) (u : Value), S r → Only S w (w.setCell ⟨r, s.l.length % s.sz, none⟩ u) := fun S u hS => (Only.refl S w).setCell (p := ⟨r, s.l.length % s.sz, none⟩) (.inl hS) u
      have hB1 : Blk (w.setCell ⟨r, s.l.length % s.sz, none⟩ (.int .u8 (b.toNat : Int))) g _ _ := hB.only (hOr (fun i => i = r) _ rfl) hrg.symm
      have hr1 := hr.put (s.l.length % s.sz) (.int .u8 (b.toNat : Int))
      rw [wbv_set] at hr1
      have hO1 := hOr G (.int .u8 (b.toNat : Int)) hGr
      have hl1 : ∀ i, G i → i < (w.setCell ⟨r, s.l.length % s.sz, none⟩ (.int .u8 (b.toNat : Int))).heap.size := fun i hi => by have := h4 i hi; simpa [World.setCell] using this
      unfold putW
      generalize w.setCell ⟨r, s.l.length % s.sz, none⟩ (.int .u8 (b.toNat : Int)) = w1 at *
      have hring : RingOk (s.put b) (ring.set (s.l.length % s.sz) b) := by
        rw [open_put h1]
        have := ring_put (b := b) h2 hn
        rw [h1] at this
        exact this
      have hlen : (s.put b).l.length = s.l.length + 1 := by rw [open_put h1]; simp
      have hsz : (s.put b).sz = s.sz := put_sz b
      have key : ∀ w2 : World, Only (fun i => i = g) w1 w2 → Blk w2 g 126 (wnCells (s.sz : Int) (some ⟨r, 0, none⟩) ring.length ring.length (((s.l.length + 1) % s.sz : Nat) : Int) (min ((s.count : Int) + 1) (s.sz : Int)) (some ⟨m, 0, none⟩)) → Pwin w2 g G m (s.put b) ∧ Only G w w2 := by
        intro w2 hO2 hB2
        refine ⟨.inl ⟨ring.set (s.l.length % s.sz) b, by rw [open_put h1], hring, h3, fun i hi => Nat.lt_of_lt_of_le (hl1 i hi) hO2.size, some ⟨r, 0, none⟩, ring.length, ?_, .inr ⟨r, rfl, by simp, hr1.only hO2 hrg, hGr, hrg⟩⟩, hO1.trans (hO2.mono (by rintro i rfl; exact h3))⟩
        rw [put_count h1, hsz, hlen, List.length_set]
        exact hB2
      have hOg : ∀ (W : World) (k : Nat) (u : Value), Only (fun i => i = g) W (W.setCell ⟨g, k, none⟩ u) := fun W k u => (Only.refl (fun i => i = g) W).setCell (p := ⟨g, k, none⟩) (.inl rfl) u
      cases wrap with
      | true =>
        have hw := hwr.1 rfl
        rw [if_pos hw] at hm
        simp only [if_true]
        refine key _ (((hOg _ 2 _).trans (hOg _ 2 _)).trans (hOg _ 3 _)) ?_
        rw [hm]
        exact ((hB1.put 2 (.int .i64 ((s.l.length % s.sz : Nat) + 1 : Int))).put 2 (.int .i64 0)).put 3 (.int .i64 (min ((s.count : Int) + 1) (s.sz : Int)))
      | false =>
        have hw : ¬ s.l.length % s.sz + 1 = s.sz := fun h => by have := hwr.2 h; cases this
        rw [if_neg hw] at hm
        simp only [Bool.false_eq_true, if_false]
        refine key _ ((hOg _ 2 _).trans (hOg _ 3 _)) ?_
        rw [hm]
        exact (hB1.put 2 (.int .i64 ((s.l.length % s.sz : Nat) + 1 : Int))).put 3 (.int .i64 (min ((s.count : Int) + 1) (s.sz : Int)))

set_option maxRecDepth 100000 in
set_option maxHeartbeats 4000000 in
theorem wput_any (h : Pwin w g G m s) (hz : s.sz ≤ 1048576) (hl : s.l.length ≤ 1000000000) :
    Calls Tryz.prog 95 #[.pointer (some ⟨g, 0, none⟩), .int .u8 (b.toNat : Int)] w (OwnPost (fun w' G' => Pwin w' g G' m (s.put b)) w G (.tuple #[])) := by
  rcases h with ⟨ring, h⟩ | h
  · have hsz := h.2.1.1
    have hle := h.2.1.2.1
    have hle2 := h.2.1.2.2.1
    have hnz : s.l.length % s.sz < s.sz := Nat.mod_lt _ hsz
    obtain ⟨nx, hx⟩ : ∃ nx, s.l.length % s.sz = nx := ⟨_, rfl⟩
    rw [hx] at hnz hle2
    have hcs : s.count ≤ s.sz := count_le
    have z0 : ((s.sz : Int) == 0) = false := by simp; omega
    have e1 : IntKind.i64.wrap ((nx : Int) + 1) = (nx : Int) + 1 := IntWalk.i64_in _ (by omega)
    have e2 : IntKind.i64.wrap ((s.count : Int) + 1) = (s.count : Int) + 1 := IntWalk.i64_in _ (by omega)
    by_cases hf : nx = ring.length
    · have K := Lib.hid (fun n => wgrow_any (w := w.drewN n) (g := g) (m := m) (G := G) (s := s) (ring := ring) h hz (by omega))
      have q0 : ((nx : Int) == (ring.length : Int)) = true := by rw [hf]; simp
      obtain ⟨A, c, hB, _⟩ := h.2.2.2.2
      rw [hx] at hB
      have c0 : w.cell? ⟨g, 0, none⟩ = some (.int .i64 (s.sz : Int)) := hB.cell 0
      have c1 : w.cell? ⟨g, 1, none⟩ = some (.slice A ring.length c) := hB.cell 1
      have c2 : w.cell? ⟨g, 2, none⟩ = some (.int .i64 (nx : Int)) := hB.cell 2
      have HF := Lib.hid hf
      have HG := Lib.hid h.2.2.1
      clear hB h hf hle hle2 hz hl hsz hcs hnz
      go_enter Tryz.func95, Tryz.ntmps95
      go_wp2_with fail
      go_region
      go_wp2_with fail
      refine (K.out _).mono ?_
      rintro y w1 ⟨rfl, ring', G1, hP, hlt, hG1, hO⟩
      have HP := Lib.hid hP
      have HN : Hid (nx < ring'.length) := Lib.hid (by have := HF.out; omega)
      have HG1 : Hid (∀ i, G1 i → G i ∨ w.heap.size ≤ i) := Lib.hid hG1
      have HO1 : Hid (∀ w2, Only G1 w1 w2 → Only G w w2) := Lib.hid (fun w2 h2 => (Only.of_drewN (hO.mono (S' := G) (by rintro i rfl; exact HG.out))).trans' h2 hG1)
      clear hP hlt hG1 hO c0 c1 c2 K q0 HF HG
      go_wp2_with fail
      obtain ⟨r, c', old, c0, c1, c2, c3, cr, fr, f2, f3, hrg, hend⟩ := put_facts (b := b) HP.out hx HN.out
      have i0 : (0 : Int) ≤ (nx : Int) := by omega
      have i1 : (nx : Int) < (ring'.length : Int) := by have := HN.out; omega
      have hgr : g ≠ r := fun e => hrg e.symm
      by_cases hw : nx + 1 = s.sz
      · have q1 : (((nx : Int) + 1) == (s.sz : Int)) = true := by simp; omega
        have HE := Lib.hid (hend true (by simp [hw]))
        clear hend hw HP HN
        go_region
        go_wp2_with fail
        go_region
        go_wp2_with fail
        go_region
        go_wp2_with fail
        first | go_end0 | refine bodyPost_ret (results_none rfl _ _ _) rfl ?_
        exact ⟨rfl, G1, HE.out.1, HG1.out, HO1.out _ HE.out.2.drew.drew.drew⟩
      · have q1 : (((nx : Int) + 1) == (s.sz : Int)) = false := by simp; omega
        have HE := Lib.hid (hend false (by simp [hw]))
        clear hend hw HP HN
        go_region
        go_wp2_with fail
        go_region
        go_wp2_with fail
        go_region
        go_wp2_with fail
        first | go_end0 | refine bodyPost_ret (results_none rfl _ _ _) rfl ?_
        exact ⟨rfl, G1, HE.out.1, HG1.out, HO1.out _ HE.out.2.drew.drew.drew⟩
    · have q0 : ((nx : Int) == (ring.length : Int)) = false := by simp; omega
      have HP := Lib.hid h
      have HN : Hid (nx < ring.length) := Lib.hid (by omega)
      obtain ⟨A, c, hB, _⟩ := h.2.2.2.2
      rw [hx] at hB
      have c0 : w.cell? ⟨g, 0, none⟩ = some (.int .i64 (s.sz : Int)) := hB.cell 0
      have c1 : w.cell? ⟨g, 1, none⟩ = some (.slice A ring.length c) := hB.cell 1
      have c2 : w.cell? ⟨g, 2, none⟩ = some (.int .i64 (nx : Int)) := hB.cell 2
      clear hB h hf hle hle2 hz hl hsz hcs hnz
      go_enter Tryz.func95, Tryz.ntmps95
      go_wp2_with fail
      go_region
      go_wp2_with fail
      clear c0 c1 c2
      obtain ⟨r, c', old, c0, c1, c2, c3, cr, fr, f2, f3, hrg, hend⟩ := put_facts (b := b) HP.out hx HN.out
      have i0 : (0 : Int) ≤ (nx : Int) := by omega
      have i1 : (nx : Int) < (ring.length : Int) := by have := HN.out; omega
      have hgr : g ≠ r := fun e => hrg e.symm
      by_cases hw : nx + 1 = s.sz
      · have q1 : (((nx : Int) + 1) == (s.sz : Int)) = true := by simp; omega
        have HE := Lib.hid (hend true (by simp [hw]))
        clear hend hw HP HN
        go_region
        go_wp2_with fail
        go_region
        go_wp2_with fail
        go_region
        go_wp2_with fail
        first | go_end0 | refine bodyPost_ret (results_none rfl _ _ _) rfl ?_
        exact ⟨rfl, G, HE.out.1, fun i hi => .inl hi, HE.out.2.drew.drew.drew.drew⟩
      · have q1 : (((nx : Int) + 1) == (s.sz : Int)) = false := by simp; omega
        have HE := Lib.hid (hend false (by simp [hw]))
        clear hend hw HP HN
        go_region
        go_wp2_with fail
        go_region
        go_wp2_with fail
        go_region
        go_wp2_with fail
        first | go_end0 | refine bodyPost_ret (results_none rfl _ _ _) rfl ?_
        exact ⟨rfl, G, HE.out.1, fun i hi => .inl hi, HE.out.2.drew.drew.drew.drew⟩
  · have c0 : w.cell? ⟨g, 0, none⟩ = some (.int .i64 0) := h.2.2.2.cell 0
    have HX := Lib.hid h
    rw [shut_put h.1]
    clear h hz hl
    go_enter Tryz.func95, Tryz.ntmps95
    go_wp2_with fail
    first | go_end0 | refine bodyPost_ret (results_none rfl _ _ _) rfl ?_
    exact ⟨rfl, G, .inr HX.out, fun i hi => .inl hi, Only.refl _ _⟩
end
end Go.Proofs.YtpdpbbmkicemdaaGreat

/-
  The program's window: a copy, a new one.
-/
namespace Go.Proofs.YtpdpbbmkicemdaaGreat
open Go.RowKit

section
variable {w w' : World} {g m : Nat} {G : Nat → Prop} {s : Ws}

set_option maxRecDepth 100000 in
set_option maxHeartbeats 2000000 in
theorem wcopy_any {d : Int} (h : Pwin w g G m s) (hz : s.sz ≤ 1048576) (hl : s.l.length ≤ 1000000000) :
    Calls Tryz.prog 79 #[.pointer (some ⟨g, 0, none⟩), .int .i64 d] w (OwnPost (fun w' G' => Pwin w' g G' m (s.copy d)) w G (.int .u8 ((s.at_ d).toNat : Int))) := by
  have K := Lib.hid (whas_any (d := d) h)
  by_cases hh : s.has d = true
  · have KA := Lib.hid (wat_any (d := d) h hz)
    have KP := Lib.hid (fun n => wput_any (w := w.drewN n) (b := s.at_ d) h hz hl)
    rw [show s.copy d = s.put (s.at_ d) by unfold Ws.copy; rw [if_pos hh]]
    rw [hh] at K
    clear h hh hz hl
    generalize s.at_ d = x at *
    go_enter Tryz.func79, Tryz.ntmps79
    go_wp2_with fail
    refine K.out.mono ?_
    rintro y w1 ⟨rfl, rfl⟩
    clear K
    go_wp2_with fail
    refine KA.out.mono ?_
    rintro y w1 ⟨rfl, k, rfl⟩
    clear KA
    go_wp2_with fail
    refine (KP.out _).mono ?_
    rintro y w2 ⟨rfl, G2, hP, hG, hO⟩
    have HE := Lib.hid (And.intro hP (And.intro hG (Only.of_drewN hO)))
    clear hP hG hO KP
    go_wp2_with fail
    go_ret
    exact ⟨rfl, G2, HE.out.1, HE.out.2.1, HE.out.2.2⟩
  · have hf : s.has d = false := by simpa using hh
    rw [show s.copy d = s by unfold Ws.copy; rw [if_neg hh], at_not hf]
    rw [hf] at K
    have HX := Lib.hid h
    clear h hh hf hz hl
    go_enter Tryz.func79, Tryz.ntmps79
    go_wp2_with fail
    refine K.out.mono ?_
    rintro y w1 ⟨rfl, rfl⟩
    clear K
    go_wp2_with fail
    go_ret
    exact ⟨rfl, G, HX.out, fun i hi => .inl hi, Only.refl _ _⟩

set_option maxRecDepth 100000 in
set_option maxHeartbeats 1000000 in
theorem wnew7_any {q : Quo} {t : Tel} {n : Int} (hM : MeterAt w 75 m q t) (hF : Fine q t) (h0 : -9223372036854775808 ≤ n) (h1 : n ≤ 1048576) (hfit : fits t.code t.mem q.mem (max n 1)) :
    Calls Tryz.prog 29 #[.int .i64 n, .pointer (some ⟨m, 0, none⟩)] w fun x w' =>
      ∃ g G, x = .returned (.tuple #[.pointer (some ⟨g, 0, none⟩), .int .i64 0]) ∧ Pwin w' g G m (Ws.new n) ∧ MeterAt w' 75 m q (t.doMem q (max n 1)) ∧ (∀ i, G i → w.heap.size ≤ i) ∧ Only (fun i => i = m) w w' := by
  have K := Lib.hid (mem_any hM hF (max n 1))
  have hd : decide (fits t.code t.mem q.mem (max n 1)) = true := by simp [hfit]
  rw [hd] at K
  have hend : ∀ w1 : World, MeterAt w1 75 m q (t.doMem q (max n 1)) → w.grownBy w1 (some m) →
      Pwin (w1.alloc (.cells #[.int .i64 (max n 1), .slice none 0 0, .int .i64 0, .int .i64 0, .pointer (some ⟨m, 0, none⟩)] 126)) w1.heap.size (fun i => i = w1.heap.size) m (Ws.new n) ∧
        MeterAt (w1.alloc (.cells #[.int .i64 (max n 1), .slice none 0 0, .int .i64 0, .int .i64 0, .pointer (some ⟨m, 0, none⟩)] 126)) 75 m q (t.doMem q (max n 1)) ∧ (∀ i, i = w1.heap.size → w.heap.size ≤ i) ∧
        Only (fun i => i = m) w (w1.alloc (.cells #[.int .i64 (max n 1), .slice none 0 0, .int .i64 0, .int .i64 0, .pointer (some ⟨m, 0, none⟩)] 126)) := by
    intro w1 hM1 hg
    refine ⟨.inl ⟨[], rfl, ring_new h1, rfl, ?_, none, 0, ?_, .inl ⟨rfl, rfl, rfl⟩⟩, hM1.alloc _, ?_, (Only.of_grown (S := fun i => i = m) hg rfl).alloc _⟩
    · rintro i rfl
      simp
    · have e : (((Ws.new n).sz : Nat) : Int) = max n 1 := by show (((max n 1).toNat : Nat) : Int) = _; omega
      have e2 : (Ws.new n).l.length % (Ws.new n).sz = 0 := Nat.zero_mod _
      have e3 : (Ws.new n).count = 0 := by unfold Ws.count Ws.new; simp
      rw [e, e2, e3]
      exact Blk.fresh w1 _ _
    · rintro i rfl
      exact hg.size
  have HE := Lib.hid hend
  clear hend hM hF h0 h1 hfit hd
  go_enter Tryz.func29, Tryz.ntmps29
  go_wp2_with fail
  refine K.out.mono ?_
  rintro y w1 ⟨rfl, hM1, hg⟩
  have HX := Lib.hid (HE.out w1 hM1 hg)
  clear hM1 hg K HE
  go_wp2_with fail
  go_ret2
  exact ⟨_, _, rfl, HX.out.1, HX.out.2.1, HX.out.2.2.1, HX.out.2.2.2⟩

end
end Go.Proofs.YtpdpbbmkicemdaaGreat

/-
  The program's decoder of LZMA in memory: its numbers, its probabilities, its window, its decoder of ranges.
-/
namespace Go.Proofs.YtpdpbbmkicemdaaGreat
open Go.RowKit

/-- where the number k of its fields lies, all probabilities left out -/
def fat (k : Nat) : Nat := if k < 15 then k else k + 1847
theorem fat_sg {a k : Nat} (h : a < 1847) : fat k ≠ 15 + sg a := by
  have := sg_lt h
  unfold fat
  split <;> omega
theorem fat_inj {j k : Nat} (h : fat j = fat k) : j = k := by
  unfold fat at h
  repeat' split at h
  all_goals omega

/-- Block g is a decoder: its fields, and the probabilities in it. -/
def LzAt (w : World) (g : Nat) (fs : List Value) (ps : List Nat) : Prop :=
  ∃ cs : Array Value, Blk w g 106 cs ∧ cs.size = 1866 ∧ fs.length = 19 ∧ (∀ k, k < 19 → cs[fat k]? = fs[k]?) ∧ ∀ a, a < 1847 → cs[15 + sg a]? = some (.int .u16 ((ps.getD a 0 : Nat) : Int))

section
variable {w w' : World} {g : Nat} {fs : List Value} {ps : List Nat}
theorem LzAt.lt (h : LzAt w g fs ps) : g < w.heap.size := by
  obtain ⟨cs, hB, _⟩ := h
  exact hB.lt
theorem LzAt.only {S : Nat → Prop} (h : LzAt w g fs ps) (hO : Only S w w') (hg : ¬ S g) : LzAt w' g fs ps := by
  obtain ⟨cs, hB, r⟩ := h
  exact ⟨cs, hB.only hO hg, r⟩
theorem LzAt.cell (h : LzAt w g fs ps) (k : Nat) (hk : k < 19) : w.cell? ⟨g, fat k, none⟩ = fs[k]? := by
  obtain ⟨cs, hB, _, _, h1, _⟩ := h
  rw [hB.cell, h1 k hk]
theorem LzAt.free (h : LzAt w g fs ps) (i : Nat) : w.frozen? ⟨g, i, none⟩ = false := by
  obtain ⟨cs, hB, _⟩ := h
  exact hB.free i
theorem LzAt.chance (h : LzAt w g fs ps) {a : Nat} (ha : a < 1847) : w.cell? ⟨g, 15 + sg a, none⟩ = some (.int .u16 ((ps.getD a 0 : Nat) : Int)) := by
  obtain ⟨cs, hB, _, _, _, h2⟩ := h
  rw [hB.cell, h2 a ha]
theorem LzAt.put (h : LzAt w g fs ps) (k : Nat) (hk : k < 19) (v : Value) : LzAt (w.setCell ⟨g, fat k, none⟩ v) g (fs.set k v) ps := by
  obtain ⟨cs, hB, hs, hl, h1, h2⟩ := h
  have hf : fat k < 1866 := by unfold fat; split <;> omega
  refine ⟨_, hB.put (fat k) v, by simp [hs], by simp [hl], fun j hj => ?_, fun a ha => ?_⟩
  · by_cases hjk : j = k
    · subst hjk
      rw [Array.getElem?_setIfInBounds, List.getElem?_set]
      simp [hs, hf, hl, hj]
    · rw [Array.getElem?_setIfInBounds_ne (fun e => hjk (fat_inj e.symm)), List.getElem?_set_ne (fun e => hjk e.symm)]
      exact h1 j hj
  · rw [Array.getElem?_setIfInBounds_ne (fat_sg ha)]
    exact h2 a ha
theorem LzAt.prob (h : LzAt w g fs ps) {a : Nat} (ha : a < 1847) (hl : 1847 ≤ ps.length) (q : Nat) : LzAt (w.setCell ⟨g, 15 + sg a, none⟩ (.int .u16 (q : Int))) g fs (ps.set a q) := by
  obtain ⟨cs, hB, hs, hfl, h1, h2⟩ := h
  have hf := sg_lt ha
  refine ⟨_, hB.put (15 + sg a) _, by simp [hs], hfl, fun j hj => ?_, fun b hb => ?_⟩
  · rw [Array.getElem?_setIfInBounds_ne (fat_sg ha).symm]
    exact h1 j hj
  · by_cases hab : a = b
    · subst hab
      rw [Array.getElem?_setIfInBounds]
      simp only [List.getD, List.getElem?_set]
      simp [hs, show 15 + sg a < 1866 by omega, show a < ps.length by omega]
    · rw [Array.getElem?_setIfInBounds_ne (fun e => hab (sg_inj ha hb (by omega))), h2 b hb]
      simp only [List.getD, List.getElem?_set_ne hab]
theorem LzAt.same {ps' : List Nat} (h : LzAt w g fs ps) (he : ∀ a, a < 1847 → ps'.getD a 0 = ps.getD a 0) : LzAt w g fs ps' := by
  obtain ⟨cs, hB, hs, hfl, h1, h2⟩ := h
  exact ⟨cs, hB, hs, hfl, h1, fun a ha => by rw [he a ha]; exact h2 a ha⟩
end

/-- what stays where it is: the decoder, the literals' probabilities (so many), window, meter, the decoder of ranges, its feed, its bytes; what the meter gave; the window's size -/
structure Kon where
  g : Nat
  lb : Nat
  nl : Nat
  wg : Nat
  m : Nat
  dg : Nat
  f : Nat
  lo : Nat
  bs : List UInt8
  room : Int
  sz : Nat
def Kon.Bk (K : Kon) : Nat → Prop := fun i => i = K.g ∨ i = K.lb
def Kon.ad (K : Kon) (a : Nat) : Nat × Nat := if a < 1847 then (K.g, 15 + sg a) else (K.lb, a - 1847)
def Rk (K : Kon) (fs : List Value) (w : World) (ps : List Nat) : Prop := LzAt w K.g fs ps ∧ Row w K.lb (ps.drop 1847) K.nl ∧ ps.length = 1847 + K.nl

theorem Kon.prb (K : Kon) (fs : List Value) (hn : K.g ≠ K.lb) : Prb (Rk K fs) K.Bk K.ad (1847 + K.nl) where
  blk {a} _ := by unfold Kon.ad Kon.Bk; split <;> simp
  cell {w ps a} h ha := by
    unfold Kon.ad
    split
    · rename_i h1
      exact h.1.chance h1
    · rename_i h1
      have hlen := h.2.2
      have hi : a - 1847 < (ps.drop 1847).length := by rw [List.length_drop]; omega
      have := h.2.1.cell hi
      dsimp only
      rw [this]
      simp only [List.getD, List.getElem?_drop]
      rw [show 1847 + (a - 1847) = a by omega]
  free {w ps a} h ha := by
    unfold Kon.ad
    split
    · exact h.1.free _
    · exact h.2.1.free _
  put {w ps a} h ha q := by
    have hlen := h.2.2
    unfold Kon.ad
    split
    · rename_i h1
      dsimp only
      refine ⟨h.1.prob h1 (by omega) q, ?_, by rw [List.length_set]; exact hlen⟩
      rw [List.drop_set_of_lt h1]
      exact h.2.1.only ((Only.refl (fun j => j = K.g) w).setCell (p := ⟨K.g, _, none⟩) (.inl rfl) _) (fun e => hn e.symm)
    · rename_i h1
      dsimp only
      refine ⟨(h.1.only ((Only.refl (fun j => j = K.lb) w).setCell (p := ⟨K.lb, _, none⟩) (.inl rfl) _) hn).same (fun b hb => ?_), ?_, by rw [List.length_set]; exact hlen⟩
      · simp only [List.getD]
        rw [List.getElem?_set_ne (by omega)]
      · have := h.2.1.put (a - 1847) q
        have e : (ps.set a q).drop 1847 = (ps.drop 1847).set (a - 1847) q := by
          rw [List.drop_set, if_neg (by omega)]
        rw [e]
        exact this
  only {w w' ps S} h hO hS := ⟨h.1.only hO (hS _ (.inl rfl)), h.2.1.only hO (hS _ (.inr rfl)), h.2.2⟩
  len h := h.2.2
  old {w ps i} h hi := by
    rcases hi with rfl | rfl
    · exact h.1.lt
    · exact h.2.1.lt

/-- its fields -/
def lwFs (K : Kon) (z : Lzs) (left : Nat) : List Value :=
  [.int .i64 (z.lc : Int), .int .i64 (z.lp : Int), .int .i64 (z.pb : Int), .int .i64 (z.dict : Int), .iface 52 (.pointer (some ⟨K.f, 0, none⟩)), .pointer (some ⟨K.dg, 0, none⟩), .pointer (some ⟨K.wg, 0, none⟩), .pointer (some ⟨K.m, 0, none⟩), .int .i64 K.room,
    .int .i64 (z.out.length : Int), .int .i64 (z.st : Int), .int .u32 (z.r0 : Int), .int .u32 (z.r1 : Int), .int .u32 (z.r2 : Int), .int .u32 (z.r3 : Int), .slice (some ⟨K.lb, 0, none⟩) K.nl K.nl, .int .i64 (left : Int), .bool z.ended, .bool z.bad]

/-- what lies apart -/
structure Apart (K : Kon) (Gw : Nat → Prop) : Prop where
  gl : K.g < K.lo
  ll : K.lb < K.lo
  ml : K.m < K.lo
  gn : K.g ≠ K.lb
  mg : K.m ≠ K.g
  mb : K.m ≠ K.lb
  wd : ∀ i, Gw i → i ≠ K.g ∧ i ≠ K.lb ∧ i ≠ K.m ∧ (i < K.lo ∨ K.dg < i)
theorem Apart.b0 {K : Kon} {Gw : Nat → Prop} (h : Apart K Gw) : ∀ i, K.Bk i → i < K.lo ∨ K.dg < i := by
  rintro i (rfl | rfl)
  · exact .inl h.gl
  · exact .inl h.ll

/-- The decoder, whole. -/
structure Lw (K : Kon) (w : World) (Gw : Nat → Prop) (z : Lzs) (t : Pm Dc) (left : Nat) : Prop where
  mch : Mch (Rk K (lwFs K z left)) K.dg K.f K.lo K.bs (1847 + K.nl) w t
  win : Pwin w K.wg Gw K.m ⟨K.sz, z.out, false⟩
  ap : Apart K Gw
/-- what a call turns that leaves the window alone -/
def Kon.own (K : Kon) : Nat → Prop := owns K.f K.dg K.Bk
def MidPost (K : Kon) (w : World) (Gw : Nat → Prop) (v : Value) (z : Lzs) (t : Pm Dc) (left : Nat) (e : Ending) (w' : World) : Prop :=
  e = .returned v ∧ Lw K w' Gw z t left ∧ Only K.own w w'
/-- what a call turns that puts bytes -/
def Kon.all (K : Kon) (Gw : Nat → Prop) : Nat → Prop := fun i => K.own i ∨ Gw i
def PutPost (K : Kon) (w : World) (Gw : Nat → Prop) (v : Value) (z : Lzs) (t : Pm Dc) (left : Nat) (e : Ending) (w' : World) : Prop :=
  e = .returned v ∧ ∃ Gw', Lw K w' Gw' z t left ∧ (∀ i, Gw' i → Gw i ∨ w.heap.size ≤ i) ∧ Only (K.all Gw) w w'

section
variable {K : Kon} {w w' : World} {Gw : Nat → Prop} {z : Lzs} {t : Pm Dc} {left : Nat}
theorem Lw.dec (h : Lw K w Gw z t left) : LzAt w K.g (lwFs K z left) t.ps := h.mch.row.1
theorem Apart.own (h : Apart K Gw) (hp : K.lo ≤ K.f ∧ K.f < K.dg) {i : Nat} (hi : Gw i) : ¬ K.own i := by
  have := h.wd i hi
  rintro (e | e | e | e) <;> omega
theorem Mch.prb (_ : Mch (Rk K (lwFs K z left)) K.dg K.f K.lo K.bs (1847 + K.nl) w t) (hn : K.g ≠ K.lb) : Prb (Rk K (lwFs K z left)) K.Bk K.ad (1847 + K.nl) := K.prb _ hn
theorem Lw.drewN (h : Lw K w Gw z t left) (n : Nat) : Lw K (w.drewN n) Gw z t left :=
  ⟨⟨h.mch.pd.drewN n, (K.prb _ h.ap.gn).only h.mch.row ((Only.refl (fun _ => False) w).drewN n) (fun _ _ h => h), h.mch.ok⟩, h.win.only ((Only.refl (fun _ => False) w).drewN n) (fun _ _ h => h), h.ap⟩
/-- a call of the decoder of ranges -/
theorem Lw.bits {v : Value} {t' : Pm Dc} {e : Ending} (h : Lw K w Gw z t left) (hp : MPost (Rk K (lwFs K z left)) K.Bk K.dg K.f K.lo K.bs (1847 + K.nl) w v t' e w') : MidPost K w Gw v z t' left e w' :=
  ⟨hp.1, ⟨hp.2.1, h.win.only hp.2.2 (fun _ hi => h.ap.own h.mch.pd.lo hi), h.ap⟩, hp.2.2⟩
/-- a field is stored -/
theorem Lw.put (h : Lw K w Gw z t left) (k : Nat) (hk : k < 19) (v : Value) {z' : Lzs} {left' : Nat} (hz : (lwFs K z left).set k v = lwFs K z' left') (ho : z'.out = z.out) : Lw K (w.setCell ⟨K.g, fat k, none⟩ v) Gw z' t left' := by
  have hO := (Only.refl (fun j => j = K.g) w).setCell (p := ⟨K.g, fat k, none⟩) (.inl rfl) v
  have hlo := h.mch.pd.lo
  refine ⟨⟨h.mch.pd.only hO (fun i hi => .inl (hi ▸ h.ap.gl)), ⟨?_, h.mch.row.2.1.only hO (fun e => h.ap.gn e.symm), h.mch.row.2.2⟩, h.mch.ok⟩, ?_, h.ap⟩
  · have := h.dec.put k hk v
    rw [hz] at this
    exact this
  · rw [ho]
    exact h.win.only hO (fun i hi e => (h.ap.wd i hi).1 e)
theorem Only.own_put (h : Only K.own w w') (k : Nat) (v : Value) : Only K.own w (w'.setCell ⟨K.g, fat k, none⟩ v) := h.setCell (p := ⟨K.g, fat k, none⟩) (.inl (.inr (.inr (.inl rfl)))) v
theorem MidPost.trans {w1 : World} {v : Value} {z' : Lzs} {t' : Pm Dc} {left' : Nat} {e : Ending} (h : Only K.own w w1) (hp : MidPost K w1 Gw v z' t' left' e w') : MidPost K w Gw v z' t' left' e w' := ⟨hp.1, hp.2.1, h.trans hp.2.2⟩
end
end Go.Proofs.YtpdpbbmkicemdaaGreat

/-
  The program's states: behind each packet.
-/
namespace Go.Proofs.YtpdpbbmkicemdaaGreat
open Go.RowKit

set_option maxRecDepth 100000 in
set_option maxHeartbeats 1000000 in
theorem papart_any (st : Nat) (w : World) :
    Calls Tryz.prog 70 #[.int .i64 (st : Int)] w fun e w' => e = .returned (.bool (decide (7 ≤ st))) ∧ w = w' := by
  have hu : decide ((st : Int) ≥ 7) = decide (7 ≤ st) := by rw [Bool.eq_iff_iff]; simp; omega
  have HU := Lib.hid hu
  clear hu
  go_enter Tryz.func70, Tryz.ntmps70
  go_wp2_with fail
  go_ret
  exact ⟨congrArg (fun x => Ending.returned (.bool x)) HU.out, rfl⟩

set_option maxRecDepth 100000 in
set_option maxHeartbeats 1000000 in
theorem pbehind_any (st a b : Nat) (w : World) :
    Calls Tryz.prog 110 #[.int .i64 (st : Int), .int .i64 (a : Int), .int .i64 (b : Int)] w fun e w' => e = .returned (.int .i64 ((aft a b st : Nat) : Int)) ∧ w = w' := by
  have KA := Lib.hid (papart_any st w)
  unfold aft
  by_cases h7 : st < 7
  · have g7 : decide (7 ≤ st) = false := decide_eq_false (by omega)
    rw [g7] at KA
    rw [if_pos h7]
    clear h7 g7
    go_enter Tryz.func110, Tryz.ntmps110
    go_wp2_with fail
    refine KA.out.mono ?_
    rintro e w1 ⟨rfl, rfl⟩
    go_wp2_with fail
    go_ret
    exact ⟨rfl, rfl⟩
  · have g7 : decide (7 ≤ st) = true := decide_eq_true (by omega)
    rw [g7] at KA
    rw [if_neg h7]
    clear h7 g7
    go_enter Tryz.func110, Tryz.ntmps110
    go_wp2_with fail
    refine KA.out.mono ?_
    rintro e w1 ⟨rfl, rfl⟩
    go_wp2_with fail
    go_ret
    exact ⟨rfl, rfl⟩

set_option maxRecDepth 100000 in
set_option maxHeartbeats 1000000 in
theorem pmat_any (st : Nat) (w : World) :
    Calls Tryz.prog 97 #[.int .i64 (st : Int)] w fun e w' => e = .returned (.int .i64 ((aft 7 10 st : Nat) : Int)) ∧ w = w' := by
  have KA := Lib.hid (pbehind_any st 7 10 w)
  go_enter Tryz.func97, Tryz.ntmps97
  go_wp2_with fail
  refine KA.out.mono ?_
  rintro e w1 ⟨rfl, rfl⟩
  go_wp2_with fail
  go_ret
  exact ⟨rfl, rfl⟩

set_option maxRecDepth 100000 in
set_option maxHeartbeats 1000000 in
theorem pag_any (st : Nat) (w : World) :
    Calls Tryz.prog 103 #[.int .i64 (st : Int)] w fun e w' => e = .returned (.int .i64 ((aft 8 11 st : Nat) : Int)) ∧ w = w' := by
  have KA := Lib.hid (pbehind_any st 8 11 w)
  go_enter Tryz.func103, Tryz.ntmps103
  go_wp2_with fail
  refine KA.out.mono ?_
  rintro e w1 ⟨rfl, rfl⟩
  go_wp2_with fail
  go_ret
  exact ⟨rfl, rfl⟩

set_option maxRecDepth 100000 in
set_option maxHeartbeats 1000000 in
theorem psing_any (st : Nat) (w : World) :
    Calls Tryz.prog 102 #[.int .i64 (st : Int)] w fun e w' => e = .returned (.int .i64 ((aft 9 11 st : Nat) : Int)) ∧ w = w' := by
  have KA := Lib.hid (pbehind_any st 9 11 w)
  go_enter Tryz.func102, Tryz.ntmps102
  go_wp2_with fail
  refine KA.out.mono ?_
  rintro e w1 ⟨rfl, rfl⟩
  go_wp2_with fail
  go_ret
  exact ⟨rfl, rfl⟩

set_option maxRecDepth 100000 in
set_option maxHeartbeats 1000000 in
theorem llit7_any (st : Nat) (hs : st ≤ 11) (w : World) :
    Calls Tryz.prog 73 #[.int .i64 (st : Int)] w fun e w' => e = .returned (.int .i64 ((litSt st : Nat) : Int)) ∧ w = w' := by
  unfold litSt
  by_cases h4 : st < 4
  · have g4 : (st : Int) < 4 := by omega
    rw [if_pos h4]
    clear h4 hs
    go_enter Tryz.func73, Tryz.ntmps73
    go_wp2_with fail
    go_ret
    exact ⟨rfl, rfl⟩
  · have g4 : ¬ (st : Int) < 4 := by omega
    rw [if_neg h4]
    by_cases h10 : st < 10
    · have g10 : (st : Int) < 10 := by omega
      rw [if_pos h10]
      have e1 : IntKind.i64.wrap ((st : Int) - 3) = ((st - 3 : Nat) : Int) := by rw [show (st : Int) - 3 = ((st - 3 : Nat) : Int) by omega]; exact IntWalk.i64_in _ (by omega)
      clear h4 h10 hs
      go_enter Tryz.func73, Tryz.ntmps73
      go_wp2_with fail
      go_ret
      exact ⟨rfl, rfl⟩
    · have g10 : ¬ (st : Int) < 10 := by omega
      rw [if_neg h10]
      have e1 : IntKind.i64.wrap ((st : Int) - 6) = ((st - 6 : Nat) : Int) := by rw [show (st : Int) - 6 = ((st - 6 : Nat) : Int) by omega]; exact IntWalk.i64_in _ (by omega)
      clear h4 h10 hs
      go_enter Tryz.func73, Tryz.ntmps73
      go_wp2_with fail
      go_ret
      exact ⟨rfl, rfl⟩
end Go.Proofs.YtpdpbbmkicemdaaGreat

/-
  The program's probabilities of packets: those of a literal, and of a distance's slot.
-/
namespace Go.Proofs.YtpdpbbmkicemdaaGreat
open Go.RowKit

theorem ofInt_w64 (a : Nat) (h : a < 18446744073709551616) : (BitVec.ofInt 64 (a : Int)).toNat = a := by simp; omega
theorem i64_and_low (n k : Nat) (hn : n < 9223372036854775808) (hk : k ≤ 62) : bits .and .i64 (n : Int) (wrap64 (wrap64 (2 ^ k) - 1)) = ((n % 2 ^ k : Nat) : Int) := by
  have hp : 2 ^ k ≤ 2 ^ 62 := Nat.pow_le_pow_right (by omega) hk
  have h1 : 1 ≤ 2 ^ k := Nat.one_le_two_pow
  have hw : wrap64 (2 ^ k) = ((2 ^ k : Nat) : Int) := by
    rw [cast_pow2]
    generalize 2 ^ k = y at *
    unfold wrap64
    omega
  have hw2 : wrap64 (((2 ^ k : Nat) : Int) - 1) = ((2 ^ k - 1 : Nat) : Int) := by
    generalize 2 ^ k = y at *
    unfold wrap64
    omega
  rw [hw, hw2]
  show IntKind.i64.wrap ((BitVec.ofInt 64 (n : Int) &&& BitVec.ofInt 64 ((2 ^ k - 1 : Nat) : Int)).toNat : Int) = _
  rw [BitVec.toNat_and, ofInt_w64 n (by omega), ofInt_w64 (2 ^ k - 1) (by omega), Nat.and_two_pow_sub_one_eq_mod]
  have := Nat.mod_le n (2 ^ k)
  exact IntWalk.i64_in _ (by omega)

theorem pow_pb {k : Nat} (h : k ≤ 4) : 2 ^ k ≤ 16 := Nat.le_trans (Nat.pow_le_pow_right (by omega) h) (by decide)
theorem mod_pb {n k : Nat} (h : k ≤ 4) : n % 2 ^ k ≤ 15 := by
  have h1 := pow_pb h
  have h2 := Nat.mod_lt n (Nat.two_pow_pos k)
  omega

theorem wrap_id (x : Nat) (h : x < 9223372036854775808) : wrap64 (x : Int) = (x : Int) := by unfold wrap64; omega
theorem shr_nat (x k : Nat) (h : x < 9223372036854775808) : wrap64 (x : Int) / 2 ^ k = ((x / 2 ^ k : Nat) : Int) := by
  rw [wrap_id x h, cast_pow2]
  exact (Int.natCast_ediv x (2 ^ k)).symm
theorem shl_nat (x k y : Nat) (hy : y = x * 2 ^ k) (h : y < 9223372036854775808) : wrap64 ((x : Int) * 2 ^ k) = (y : Int) := by
  rw [cast_pow2, ← Int.natCast_mul, ← hy]
  exact wrap_id y h

theorem row_small {a x nl : Nat} (h : a = 768 * x) (h1 : a + 768 ≤ nl) (h2 : nl ≤ 100000000) : x ≤ 200000 ∧ a ≤ 100000000 := by omega
theorem row_facts {a S b nl P2 last : Nat} (h : a = 768 * (P2 + last)) (h1 : a + 768 ≤ nl) (h2 : nl ≤ 100000000) (hS : S = P2 + last) (hb : b = a + 768) :
    wrap64 ((P2 : Int) + (last : Int)) = (S : Int) ∧ wrap64 (768 * (S : Int)) = (a : Int) ∧ wrap64 ((a : Int) + 768) = (b : Int) ∧ (0 : Int) ≤ (a : Int) ∧ (a : Int) ≤ (b : Int) ∧ (b : Int) ≤ (nl : Int) ∧ ¬ nl = a := by
  have hs := row_small h h1 h2
  refine ⟨?_, ?_, ?_, by omega, by omega, by omega, by omega⟩
  · rw [← Int.natCast_add, ← hS]
    exact wrap_id _ (by omega)
  · rw [show 768 * (S : Int) = (a : Int) by omega]
    exact wrap_id _ (by omega)
  · rw [show (a : Int) + 768 = (b : Int) by omega]
    exact wrap_id _ (by omega)


set_option maxRecDepth 100000 in
set_option maxHeartbeats 2000000 in
theorem pslot_any {g o0 l ml : Nat} (hm : ml = min l 3) (w : World) :
    Calls Tryz.prog 111 #[.pointer (some ⟨g, o0, none⟩), .int .i64 (l : Int)] w fun e w' => e = .returned (.slice (some ⟨g, o0 + 1591 + ml * 64, none⟩) 64 64) ∧ w = w' := by
  by_cases h3 : l ≤ 3
  · obtain rfl : ml = l := by omega
    have g3 : (ml : Int) ≤ 3 := by omega
    have g3' : (ml : Int) < 4 := by omega
    have g0 : (0 : Int) ≤ (ml : Int) := by omega
    have gm : min (ml : Int) 3 = (ml : Int) := by omega
    clear hm h3
    go_enter Tryz.func111, Tryz.ntmps111
    go_wp2_with fail
    go_ret
    exact ⟨rfl, rfl⟩
  · obtain rfl : ml = 3 := by omega
    have g3 : ¬ (l : Int) ≤ 3 := by omega
    have gm : min (l : Int) 3 = 3 := by omega
    clear hm h3
    go_enter Tryz.func111, Tryz.ntmps111
    go_wp2_with fail
    go_ret
    exact ⟨rfl, rfl⟩

set_option maxRecDepth 100000 in
set_option maxHeartbeats 4000000 in
theorem prow_any {b nl lc lp n last a : Nat} {pb d : Int} (hlc : lc ≤ 8) (hlp : lp ≤ 4) (hn : n ≤ 1000000) (hla : last < 256) (ha : a = 768 * (n % 2 ^ lp * 2 ^ lc + last / 2 ^ (8 - lc))) (h1 : a + 768 ≤ nl) (h2 : nl ≤ 100000000) (w : World) :
    Calls Tryz.prog 68 #[.slice (some ⟨b, 0, none⟩) nl nl, .agg #[.int .i64 (lc : Int), .int .i64 (lp : Int), .int .i64 pb, .int .i64 d], .int .i64 (n : Int), .int .u8 (last : Int)] w fun e w' => e = .returned (.slice (some ⟨b, a, none⟩) 768 (nl - a)) ∧ Only (fun _ => False) w w' := by
  have hl4 : min lp 64 = lp := by omega
  have hl8 : min lc 64 = lc := by omega
  have hl88 : min (8 - lc) 64 = 8 - lc := by omega
  obtain ⟨w1, hw1⟩ : ∃ w1, w1 = w.alloc (.cells #[.int .i64 (lc : Int), .int .i64 (lp : Int), .int .i64 pb, .int .i64 d] 24) := ⟨_, rfl⟩
  have hb1 : Only (fun _ => False) w w1 := by rw [hw1]; exact (Only.refl _ w).alloc _
  have HBk : Blk w1 w.heap.size 24 #[.int .i64 (lc : Int), .int .i64 (lp : Int), .int .i64 pb, .int .i64 d] := by rw [hw1]; exact Blk.fresh w _ _
  have c0 : w1.cell? ⟨w.heap.size, 0, none⟩ = some (.int .i64 (lc : Int)) := HBk.cell 0
  have c1 : w1.cell? ⟨w.heap.size, 1, none⟩ = some (.int .i64 (lp : Int)) := HBk.cell 1
  have e0 : IntKind.i64.wrap (8 - (lc : Int)) = ((8 - lc : Nat) : Int) := by rw [show 8 - (lc : Int) = ((8 - lc : Nat) : Int) by omega]; exact IntWalk.i64_in _ (by omega)
  have E1 := Lib.hid (i64_and_low n lp (by omega) (by omega))
  obtain ⟨P, hP⟩ : ∃ P, P = n % 2 ^ lp := ⟨_, rfl⟩
  rw [← hP] at E1 ha
  have E2 := Lib.hid (shr_nat last (8 - lc) (by omega))
  obtain ⟨la, hla2⟩ : ∃ x, x = last / 2 ^ (8 - lc) := ⟨_, rfl⟩
  rw [← hla2] at E2 ha
  obtain ⟨P2, hP2⟩ : ∃ x, x = P * 2 ^ lc := ⟨_, rfl⟩
  rw [← hP2] at ha
  have hsm := row_small ha h1 h2
  have f1 := shl_nat P lc P2 hP2 (Nat.lt_of_le_of_lt (Nat.le_trans (Nat.le_add_right _ _) hsm.1) (by decide))
  obtain ⟨S, hS⟩ : ∃ S, S = P2 + la := ⟨_, rfl⟩
  obtain ⟨b2, hb⟩ : ∃ b, b = a + 768 := ⟨_, rfl⟩
  obtain ⟨f2, f3, f4, g1, g2, g3, g4⟩ := row_facts ha h1 h2 hS hb
  have HB := Lib.hid hb
  have HF := Lib.hid (And.intro f1 (And.intro f2 (And.intro f3 (And.intro f4 (And.intro g1 (And.intro g2 (And.intro g3 g4)))))))
  have HW1 := Lib.hid hw1
  have HB1 := Lib.hid hb1
  clear hb ha hP hla2 hP2 hsm f1 f2 f3 f4 g1 g2 g3 g4 hS hn h1 h2 hla hw1 hb1 HBk
  go_enter Tryz.func68, Tryz.ntmps68
  go_upto_region 1 with fail
  rw [← HW1.out]
  clear HW1
  go_upto_region 2 with fail
  rw [E1.out]
  go_quiet (fail)
  rw [E2.out]
  have HB2 := Lib.hid (HB1.out.drewN nq)
  obtain ⟨f1, f2, f3, f4, g1, g2, g3, g4⟩ := HF.out
  clear e0 E1 E2 HF c0 c1 HB1
  generalize w1.drewN nq = w2 at *
  go_wp2_with fail
  go_ret
  have e768 : b2 - a = 768 := by have := HB.out; omega
  exact ⟨congrArg (fun n => Ending.returned (.slice (some ⟨b, a, none⟩) n (nl - a))) e768, HB2.out⟩
end Go.Proofs.YtpdpbbmkicemdaaGreat

/-
  The program's decoder of LZMA: its small calls: the place's bits, which packet, which elder distance.
-/
namespace Go.Proofs.YtpdpbbmkicemdaaGreat
open Go.RowKit

/-! ### a machine that is dead changes nothing; what is wanted of a decoder doesn't matter -/
theorem set_self (ps : List Nat) (a : Nat) : ps.set a (ps.getD a 0) = ps := by
  by_cases h : a < ps.length
  · exact set_same_get ps a h
  · exact List.set_eq_of_length_le (by omega)
theorem bitP_none {t : Pm Dc} {a : Nat} {w : Int} (h : t.x = none) : bitP decM t a w = (0, t) := by
  show ((bitD t.x (t.ps.getD a 0)).1, (⟨t.ps.set a (bitD t.x (t.ps.getD a 0)).2.1, (bitD t.x (t.ps.getD a 0)).2.2⟩ : Pm Dc)) = _
  rw [h]
  show (0, (⟨t.ps.set a (t.ps.getD a 0), none⟩ : Pm Dc)) = _
  rw [set_self, ← h]
theorem treeG_none {t : Pm Dc} {a n : Nat} {v : Int} (h : t.x = none) : ∀ j, (treeG decM t a n v j).t = t
  | 0 => rfl
  | j + 1 => by
    show (bitP decM (treeG decM t a n v j).t _ _).2 = t
    rw [treeG_none h j, bitP_none h]
theorem revG_none {t : Pm Dc} {a : Nat} {v : Int} (h : t.x = none) : ∀ j, (revG decM t a v j).t = t
  | 0 => rfl
  | j + 1 => by
    show (bitP decM (revG decM t a v j).t _ _).2 = t
    rw [revG_none h j, bitP_none h]
theorem treeP_none {t : Pm Dc} {a n : Nat} {v : Int} (h : t.x = none) : (treeP decM t a n v).2 = t := treeG_none h n
theorem revP_none {t : Pm Dc} {a n : Nat} {v : Int} (h : t.x = none) : (revP decM t a n v).2 = t := revG_none h n
theorem treeG_dec {t : Pm Dc} {a n : Nat} (v v' : Int) : ∀ j, treeG decM t a n v j = treeG decM t a n v' j
  | 0 => rfl
  | j + 1 => by
    show tgStep decM a j _ (treeG decM t a n v j) = tgStep decM a j _ (treeG decM t a n v' j)
    rw [treeG_dec v v' j]
    rfl
theorem revG_dec {t : Pm Dc} {a : Nat} (v v' : Int) : ∀ j, revG decM t a v j = revG decM t a v' j
  | 0 => rfl
  | j + 1 => by
    show tgStep decM a j _ (revG decM t a v j) = tgStep decM a j _ (revG decM t a v' j)
    rw [revG_dec v v' j]
    rfl
theorem treeP_dec {t : Pm Dc} {a n : Nat} (v v' : Int) : treeP decM t a n v = treeP decM t a n v' := by
  unfold treeP
  rw [treeG_dec v v']
theorem revP_dec {t : Pm Dc} {a n : Nat} (v v' : Int) : revP decM t a n v = revP decM t a n v' := by
  unfold revP
  rw [revG_dec v v']
theorem distB_none {b : Nat × Pm Dc} {v : Nat} (h : b.2.x = none) : (distB decM b v).2 = b.2 := by
  unfold distB
  split
  · rfl
  split
  · exact revP_none h
  · unfold distC
    have e : (decM.str b.2.x (b.1 / 2 - 1 - 4) ((v + 4294967296 - (2 + b.1 % 2) * 2 ^ (b.1 / 2 - 1)) % 4294967296 / 16)).2 = none := by
      show (straightD _ b.2.x).2 = none
      rw [h, straightD_none]
    rw [e]
    have : (⟨b.2.ps, none⟩ : Pm Dc) = b.2 := by rw [← h]
    rw [this]
    exact revP_none h
theorem distP_none {t : Pm Dc} {l v : Nat} (h : t.x = none) : (distP decM t l v).2 = t := by
  have h1 : (treeP decM t (432 + 64 * min l 3) 6 (slotOf v : Int)).2 = t := treeP_none h
  unfold distP
  rw [distB_none (by rw [h1]; exact h), h1]

/-! ### where a probability lies -/
section
variable {K : Kon} {w w' : World} {Gw : Nat → Prop} {z : Lzs} {t : Pm Dc} {left : Nat}
theorem Kon.lay (K : Kon) : Lay K.ad K.g 15 := fun a ha => by unfold Kon.ad; rw [if_pos ha]
theorem Kon.ad_low {a i : Nat} (h : a < 192) (hi : i = 15 + a) : K.ad a = (K.g, i) := K.lay.low h hi
theorem Kon.ad_rep {a i : Nat} (h : 192 ≤ a) (h1 : a < 240) (hi : i = 15 + (a + 192)) : K.ad a = (K.g, i) := K.lay.rep h h1 hi
theorem Kon.ad_long {a i : Nat} (h : 240 ≤ a) (h1 : a < 432) (hi : i = 15 + (a - 48)) : K.ad a = (K.g, i) := K.lay.long h h1 hi
theorem Kon.ad_slot {a i : Nat} (h : 432 ≤ a) (h1 : a < 688) (hi : i = 15 + (a + 1159)) : K.ad a = (K.g, i) := K.lay.slot h h1 hi
theorem Kon.ad_rest {a i : Nat} (h : 688 ≤ a) (h1 : a < 1847) (hi : i = 15 + (a - 256)) : K.ad a = (K.g, i) := K.lay.rest h h1 hi
theorem Kon.ad_lit {a i : Nat} (h : 1847 ≤ a) (hi : i = a - 1847) : K.ad a = (K.lb, i) := by
  unfold Kon.ad
  rw [if_neg (by omega), hi]

theorem Lw.bit (h : Lw K w Gw z t left) {a b i : Nat} (k : Int) (hab : K.ad a = (b, i)) (ha : a < 1847 + K.nl) :
    Calls Tryz.prog 66 #[.pointer (some ⟨K.dg, 0, none⟩), .pointer (some ⟨b, i, none⟩)] w (MidPost K w Gw (.int .i64 ((bitP decM t a k).1 : Int)) z (bitP decM t a k).2 left) :=
  (lw_bit (K.prb _ h.ap.gn) h.ap.b0 hab ha h.mch).mono fun _ _ hp => h.bits hp
/-- a value that is told, by a machine that may be dead then -/
def Alive (t : Pm Dc) (v u : Nat) : Nat := if t.x = none then v else u
def TreePost (K : Kon) (w : World) (Gw : Nat → Prop) (z : Lzs) (r : Nat × Pm Dc) (left : Nat) (e : Ending) (w' : World) : Prop := MidPost K w Gw (.int .i64 (Alive r.2 0 r.1 : Nat)) z r.2 left e w'
theorem Lw.tree (h : Lw K w Gw z t left) {a n b o len cap : Nat} (v : Int) (had : ∀ m, m < 2 ^ n → K.ad (a + m) = (b, o + m)) (haL : a + 2 ^ n ≤ 1847 + K.nl) (hn : 2 ^ n ≤ len) (hn8 : n ≤ 8) :
    Calls Tryz.prog 72 #[.pointer (some ⟨K.dg, 0, none⟩), .slice (some ⟨b, o, none⟩) len cap, .int .i64 (n : Int)] w (TreePost K w Gw z (treeP decM t a n v) left) := by
  rw [treeP_dec v 0]
  exact (lw_tree (K.prb _ h.ap.gn) h.ap.b0 had haL rfl h.mch hn hn8).mono fun _ _ hp => h.bits hp
theorem Lw.rev (h : Lw K w Gw z t left) {a n b o len cap : Nat} (v : Int) (had : ∀ m, m < 2 ^ n → K.ad (a + m) = (b, o + m)) (haL : a + 2 ^ n ≤ 1847 + K.nl) (hn : 2 ^ n ≤ len) (hn8 : n ≤ 8) :
    Calls Tryz.prog 112 #[.pointer (some ⟨K.dg, 0, none⟩), .slice (some ⟨b, o, none⟩) len cap, .int .i64 (n : Int)] w (TreePost K w Gw z (revP decM t a n v) left) := by
  rw [revP_dec v 0]
  exact (lw_rev (K.prb _ h.ap.gn) h.ap.b0 had haL rfl h.mch hn hn8).mono fun _ _ hp => h.bits hp
theorem Lw.straight (h : Lw K w Gw z t left) {n : Nat} (hn : n ≤ 32) :
    Calls Tryz.prog 113 #[.pointer (some ⟨K.dg, 0, none⟩), .int .i64 (n : Int)] w (MidPost K w Gw (.int .u32 ((straightD n t.x).1 : Int)) z ⟨t.ps, (straightD n t.x).2⟩ left) :=
  (lw_straight (K.prb _ h.ap.gn) h.ap.b0 h.mch hn).mono fun _ _ hp => h.bits hp
theorem Lw.isBad (h : Lw K w Gw z t left) : Calls Tryz.prog 65 #[.pointer (some ⟨K.dg, 0, none⟩)] w fun e w' => e = .returned (.bool (decM.bad t.x)) ∧ w = w' := lw_bad h.mch

/-- what its fields hold -/
structure Lf (K : Kon) (w : World) (z : Lzs) (left : Nat) : Prop where
  c0 : w.cell? ⟨K.g, 0, none⟩ = some (.int .i64 (z.lc : Int))
  c1 : w.cell? ⟨K.g, 1, none⟩ = some (.int .i64 (z.lp : Int))
  c2 : w.cell? ⟨K.g, 2, none⟩ = some (.int .i64 (z.pb : Int))
  c4 : w.cell? ⟨K.g, 4, none⟩ = some (.iface 52 (.pointer (some ⟨K.f, 0, none⟩)))
  c5 : w.cell? ⟨K.g, 5, none⟩ = some (.pointer (some ⟨K.dg, 0, none⟩))
  c6 : w.cell? ⟨K.g, 6, none⟩ = some (.pointer (some ⟨K.wg, 0, none⟩))
  c7 : w.cell? ⟨K.g, 7, none⟩ = some (.pointer (some ⟨K.m, 0, none⟩))
  c8 : w.cell? ⟨K.g, 8, none⟩ = some (.int .i64 K.room)
  c9 : w.cell? ⟨K.g, 9, none⟩ = some (.int .i64 (z.out.length : Int))
  c10 : w.cell? ⟨K.g, 10, none⟩ = some (.int .i64 (z.st : Int))
  c11 : w.cell? ⟨K.g, 11, none⟩ = some (.int .u32 (z.r0 : Int))
  c12 : w.cell? ⟨K.g, 12, none⟩ = some (.int .u32 (z.r1 : Int))
  c13 : w.cell? ⟨K.g, 13, none⟩ = some (.int .u32 (z.r2 : Int))
  c14 : w.cell? ⟨K.g, 14, none⟩ = some (.int .u32 (z.r3 : Int))
  lits : w.cell? ⟨K.g, 1862, none⟩ = some (.slice (some ⟨K.lb, 0, none⟩) K.nl K.nl)
  left : w.cell? ⟨K.g, 1863, none⟩ = some (.int .i64 (left : Int))
  ended : w.cell? ⟨K.g, 1864, none⟩ = some (.bool z.ended)
  bad : w.cell? ⟨K.g, 1865, none⟩ = some (.bool z.bad)
  fz : ∀ i, w.frozen? ⟨K.g, i, none⟩ = false
theorem Lw.f (h : Lw K w Gw z t left) : Lf K w z left :=
  ⟨h.dec.cell 0 (by decide), h.dec.cell 1 (by decide), h.dec.cell 2 (by decide), h.dec.cell 4 (by decide), h.dec.cell 5 (by decide), h.dec.cell 6 (by decide), h.dec.cell 7 (by decide), h.dec.cell 8 (by decide), h.dec.cell 9 (by decide), h.dec.cell 10 (by decide),
    h.dec.cell 11 (by decide), h.dec.cell 12 (by decide), h.dec.cell 13 (by decide), h.dec.cell 14 (by decide), h.dec.cell 15 (by decide), h.dec.cell 16 (by decide), h.dec.cell 17 (by decide), h.dec.cell 18 (by decide), fun i => h.dec.free i⟩

set_option maxRecDepth 100000 in
set_option maxHeartbeats 1000000 in
theorem lplace_any (h : Lw K w Gw z t left) (hp : z.pb ≤ 4) (ho : z.out.length ≤ 1000000) :
    Calls Tryz.prog 67 #[.pointer (some ⟨K.g, 0, none⟩)] w fun e w' => e = .returned (.int .i64 ((z.out.length % 2 ^ z.pb : Nat) : Int)) ∧ ∃ n, w.drewN n = w' := by
  have c9 := h.f.c9
  have c2 := h.f.c2
  have e0 := i64_and_low z.out.length z.pb (by omega) (by omega)
  have HE0 := Lib.hid e0
  clear h e0
  generalize z.out.length = n at *
  generalize z.pb = k at *
  go_enter Tryz.func67, Tryz.ntmps67
  go_wp2_with fail
  go_quiet (fail)
  go_wp2_with fail
  go_ret
  exact ⟨congrArg (fun x => Ending.returned (.int .i64 x)) HE0.out, _, rfl⟩

theorem lplace_mid (h : Lw K w Gw z t left) (hp : z.pb ≤ 4) (ho : z.out.length ≤ 1000000) :
    Calls Tryz.prog 67 #[.pointer (some ⟨K.g, 0, none⟩)] w (MidPost K w Gw (.int .i64 ((z.out.length % 2 ^ z.pb : Nat) : Int)) z t left) := by
  refine (lplace_any h hp ho).mono ?_
  rintro e w' ⟨rfl, n, rfl⟩
  exact ⟨rfl, h.drewN n, (Only.refl _ w).drewN n⟩

set_option maxRecDepth 100000 in
set_option maxHeartbeats 2000000 in
theorem lstart_any (h : Lw K w Gw z t left) (hs : z.st ≤ 11) (hp : z.pb ≤ 4) (ho : z.out.length ≤ 1000000) :
    Calls Tryz.prog 41 #[.pointer (some ⟨K.g, 0, none⟩)] w
      (MidPost K w Gw (.bool (decide ((bitP decM t (16 * z.st + z.out.length % 2 ^ z.pb) 0).1 = 0))) z (bitP decM t (16 * z.st + z.out.length % 2 ^ z.pb) 0).2 left) := by
  have c10 := h.f.c10
  have c5 := h.f.c5
  have KP := Lib.hid (fun n => lplace_any (h.drewN n) hp ho)
  have hs15 := mod_pb (n := z.out.length) hp
  obtain ⟨s, hs2⟩ : ∃ s, s = z.out.length % 2 ^ z.pb := ⟨_, rfl⟩
  rw [← hs2] at KP hs15 ⊢
  have KB := Lib.hid (fun n => (h.drewN n).bit (a := 16 * z.st + s) (b := K.g) (i := 15 + z.st * 16 + s) 0 (Kon.ad_low (by omega) (by omega)) (by omega))
  obtain ⟨B, hB⟩ : ∃ B, B = bitP decM t (16 * z.st + s) 0 := ⟨_, rfl⟩
  rw [← hB] at KB ⊢
  obtain ⟨st, hst⟩ : ∃ st, st = z.st := ⟨_, rfl⟩
  rw [← hst] at c10 KB
  have i1 : (st : Int) < 12 := by omega
  have i0 : (0 : Int) ≤ (st : Int) := by omega
  have j1 : (s : Int) < 16 := by omega
  have j0 : (0 : Int) ≤ (s : Int) := by omega
  have hu : ((B.1 : Int) == 0) = decide (B.1 = 0) := by rw [Bool.eq_iff_iff]; simp
  have HST := Lib.hid hst
  clear h hst hs2 hB hs15 hs hp ho
  go_enter Tryz.func41, Tryz.ntmps41
  go_wp2_with fail
  go_region_held3 (fun w' => w'.cell? ⟨K.g, 5, none⟩ = some (.pointer (some ⟨K.dg, 0, none⟩)) ∧ w'.cell? ⟨K.g, 10, none⟩ = some (.int .i64 (st : Int)))
    (first | assumption | go_keep | exact ⟨c5, c10⟩ | exact ⟨e5, e10⟩)
    (first
      | (go_at_call 67; refine (KP.out 1).mono ?_; rintro e w1 ⟨rfl, n1, rfl⟩; clear KP)
      | (go_at_call 66; refine (KB.out _).mono ?_; rintro e w2 ⟨rfl, hz2, ho2⟩; have e5 := hz2.f.c5; have e10 := hz2.f.c10; rw [← HST.out] at e10; have HZ2 := Lib.hid hz2; have HO2 := Lib.hid (Only.of_drewN ho2); clear hz2 ho2 KB))
  go_wp2_with fail
  go_ret
  exact ⟨rfl, HZ2.out, HO2.out⟩

def ElderPost (K : Kon) (w : World) (Gw : Nat → Prop) (z : Lzs) (t : Pm Dc) (left : Nat) (e : Ending) (w' : World) : Prop :=
  ((bitP decM t (216 + z.st) 0).1 = 0 ∧ MidPost K w Gw (.int .i64 ((1 : Nat) : Int)) z (bitP decM t (216 + z.st) 0).2 left e w') ∨
  ((bitP decM t (216 + z.st) 0).1 ≠ 0 ∧ MidPost K w Gw (.int .i64 ((2 + (bitP decM (bitP decM t (216 + z.st) 0).2 (228 + z.st) 0).1 : Nat) : Int)) z (bitP decM (bitP decM t (216 + z.st) 0).2 (228 + z.st) 0).2 left e w')

set_option maxRecDepth 100000 in
set_option maxHeartbeats 2000000 in
theorem lelder_any (h : Lw K w Gw z t left) (hs : z.st ≤ 11) :
    Calls Tryz.prog 101 #[.pointer (some ⟨K.g, 0, none⟩)] w (ElderPost K w Gw z t left) := by
  have c10 := h.f.c10
  have c5 := h.f.c5
  have KB := Lib.hid ((h.drewN 1).bit (a := 216 + z.st) (b := K.g) (i := 423 + z.st) 0 (Kon.ad_rep (by omega) (by omega) (by omega)) (by omega))
  have KB2 := Lib.hid (fun (w1 : World) (h1 : Lw K w1 Gw z (bitP decM t (216 + z.st) 0).2 left) => (h1.drewN 1).bit (a := 228 + z.st) (b := K.g) (i := 435 + z.st) 0 (Kon.ad_rep (by omega) (by omega) (by omega)) (by omega))
  have hb1 := (bitP_ok decM_ok (k := 0) (a := 216 + z.st) (w := 0) (okD_any h.mch.ok) (by omega) (fun h => by cases h))
  have hb2 := (bitP_ok decM_ok (k := 0) (a := 228 + z.st) (w := 0) (okD_any hb1.2) (by omega) (fun h => by cases h)).1
  unfold ElderPost
  obtain ⟨B, hB⟩ : ∃ B, B = bitP decM t (216 + z.st) 0 := ⟨_, rfl⟩
  rw [← hB] at KB KB2 hb1 hb2 ⊢
  obtain ⟨B2, hB2⟩ : ∃ B2, B2 = bitP decM B.2 (228 + z.st) 0 := ⟨_, rfl⟩
  rw [← hB2] at KB2 hb2 ⊢
  obtain ⟨st, hst⟩ : ∃ st, st = z.st := ⟨_, rfl⟩
  rw [← hst] at c10 KB KB2
  have i1 : (st : Int) < 12 := by omega
  have i0 : (0 : Int) ≤ (st : Int) := by omega
  have e2 : IntKind.i64.wrap (2 + (B2.1 : Int)) = ((2 + B2.1 : Nat) : Int) := by rw [show 2 + (B2.1 : Int) = ((2 + B2.1 : Nat) : Int) by omega]; exact IntWalk.i64_in _ (by omega)
  have HST := Lib.hid hst
  clear h hst hB hB2 hs hb1 hb2
  by_cases hu : B.1 = 0
  · have hu2 : ((B.1 : Int) == 0) = true := by simp [hu]
    have HU := Lib.hid hu
    clear hu
    go_enter Tryz.func101, Tryz.ntmps101
    go_wp2_with fail
    go_still_tail 13, (by kernel_rfl)
    change wpList _ _ _ _ _ w.drew
    go_wp2_with fail
    refine KB.out.mono ?_
    rintro e w2 ⟨rfl, hz2, ho2⟩
    have HZ2 := Lib.hid hz2
    have HO2 := Lib.hid (Only.of_drewN ho2)
    clear hz2 ho2 KB
    go_wp2_with fail
    go_ret
    exact .inl ⟨HU.out, rfl, HZ2.out, HO2.out⟩
  · have hu2 : ((B.1 : Int) == 0) = false := by simp; omega
    have HU := Lib.hid hu
    clear hu
    go_enter Tryz.func101, Tryz.ntmps101
    go_wp2_with fail
    go_still_tail 13, (by kernel_rfl)
    change wpList _ _ _ _ _ w.drew
    go_wp2_with fail
    refine KB.out.mono ?_
    rintro e w2 ⟨rfl, hz2, ho2⟩
    have HO2 := Lib.hid (Only.of_drewN ho2)
    have e5 := hz2.f.c5
    have e10 := hz2.f.c10
    rw [← HST.out] at e10
    have KC := Lib.hid (KB2.out w2 hz2)
    clear hz2 ho2 KB KB2 c10 c5
    go_wp2_with fail
    go_still_tail 13, (by kernel_rfl)
    change wpList _ _ _ _ _ w2.drew
    go_wp2_with fail
    refine KC.out.mono ?_
    rintro e w3 ⟨rfl, hz3, ho3⟩
    have HZ3 := Lib.hid hz3
    have HO3 := Lib.hid (HO2.out.trans (Only.of_drewN ho3))
    clear hz3 ho3 KC
    go_wp2_with fail
    go_ret
    exact .inr ⟨HU.out, rfl, HZ3.out, HO3.out⟩
end
end Go.Proofs.YtpdpbbmkicemdaaGreat
