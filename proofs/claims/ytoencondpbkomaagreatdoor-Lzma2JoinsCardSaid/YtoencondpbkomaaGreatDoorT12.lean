/-
  WnOne, WnCopy, LwMem: put together.
-/
import Derived.Test.YtoencondpbkomaaGreatDoorT11
import Derived.Test.YtoencondpbkomaaGreatDoorT09
import Derived.Test.YtoencondpbkomaaGreatDoorT08
import Derived.Test.YtoencondpbkomaaGreatDoorT01
set_option linter.unusedVariables false
set_option linter.unusedSimpArgs false
/-
  The program's window: a byte is put, or copied.
-/
namespace Go.Proofs.YtoencondpbkomaaGreatDoor
open Go.RowKit

/-- the window behind the stores of a put -/
def putW (w : World) (g r nx : Nat) (b : UInt8) (last nw : Int) (wrap : Bool) : World :=
  let w1 := (w.setCell ⟨r, nx, none⟩ (.int .u8 (b.toNat : Int))).setCell ⟨g, 2, none⟩ (.int .i64 last)
  let w2 := if wrap = true then w1.setCell ⟨g, 2, none⟩ (.int .i64 0) else w1
  w2.setCell ⟨g, 3, none⟩ (.int .i64 nw)

section
variable {w w' : World} {g m : Nat} {G : Nat → Prop} {s : Ws} {ring : List UInt8} {b : UInt8}

theorem wbv_set (l : List UInt8) (k : Nat) (b : UInt8) : ((bv l).toArray.setIfInBounds k (.int .u8 (b.toNat : Int))) = (bv (l.set k b)).toArray := by
  simp [bv, List.map_set]

theorem put_count (h : s.shut = false) (b : UInt8) : (((s.put b).count : Nat) : Int) = min ((s.count : Int) + 1) (s.sz : Int) := by
  rw [open_put h, open_count h, open_count rfl]
  simp only [List.length_append, List.length_singleton]
  omega

/-- where a byte is put: the facts of the walk, and its end -/
theorem put_facts {nx : Nat} (h : Po w g G m s ring) (hx : s.l.length % s.sz = nx) (hn : nx < ring.length) :
    ∃ r c old, w.cell? ⟨g, 0, none⟩ = some (.int .i64 (s.sz : Int)) ∧ w.cell? ⟨g, 1, none⟩ = some (.slice (some ⟨r, 0, none⟩) ring.length c) ∧
      w.cell? ⟨g, 2, none⟩ = some (.int .i64 (nx : Int)) ∧ w.cell? ⟨g, 3, none⟩ = some (.int .i64 (s.count : Int)) ∧
      w.cell? ⟨r, nx, none⟩ = some old ∧ w.frozen? ⟨r, nx, none⟩ = false ∧ w.frozen? ⟨g, 2, none⟩ = false ∧ w.frozen? ⟨g, 3, none⟩ = false ∧ r ≠ g ∧
      ∀ wrap : Bool, (wrap = true ↔ nx + 1 = s.sz) →
        Pwin (putW w g r nx b ((nx : Int) + 1) (min ((s.count : Int) + 1) (s.sz : Int)) wrap) g G m (s.put b) ∧
        Only G w (putW w g r nx b ((nx : Int) + 1) (min ((s.count : Int) + 1) (s.sz : Int)) wrap) := by
  subst hx
  obtain ⟨h1, h2, h3, h4, A, c, hB, hR⟩ := h
  rcases hR with ⟨rfl, _⟩ | ⟨r, rfl, rfl, hr, hGr, hrg⟩
  · exact absurd hn (by simp)
  · refine ⟨r, ring.length, (.int .u8 ((ring.getD (s.l.length % s.sz) 0).toNat : Int)), hB.cell 0, hB.cell 1, hB.cell 2, hB.cell 3, ?_, hr.free _, hB.free 2, hB.free 3, hrg, ?_⟩
    · rw [hr.cell]
      have := bv_get ring _ hn
      simpa using this
    · intro wrap hwr
      have hm := mod_next (n := s.l.length) h2.1
      have hOr : ∀ (S : Nat → Prop) (u : Value), S r → Only S w (w.setCell ⟨r, s.l.length % s.sz, none⟩ u) := fun S u hS => (Only.refl S w).setCell (p := ⟨r, s.l.length % s.sz, none⟩) (.inl hS) u
      have hB1 : Blk (w.setCell ⟨r, s.l.length % s.sz, none⟩ (.int .u8 (b.toNat : Int))) g _ _ := hB.only (hOr (fun i => i = r) _ rfl) hrg.symm
      have hr1 := hr.put (s.l.length % s.sz) (.int .u8 (b.toNat : Int))
      rw [wbv_set] at hr1
      have hO1 := hOr G (.int .u8 (b.toNat : Int)) hGr
      have hl1 : ∀ i, G i → i < (w.setCell ⟨r, s.l.length % s.sz, none⟩ (.int .u8 (b.toNat : Int))).heap.size := fun i hi => by have := h4 i hi; simpa [World.setCell] using this
      unfold putW
      generalize w.setCell ⟨r, s.l.length % s.sz, none⟩ (.int .u8 (b.toNat : Int)) = w1 at *
      have hring : RingOk (s.put b) (ring.set (s.l.length % s.sz) b) := by
        rw [open_put h1]
        have := ring_put (b := b) h2 hn
        rw [h1] at this
        exact this
      have hlen : (s.put b).l.length = s.l.length + 1 := by rw [open_put h1]; simp
      have hsz : (s.put b).sz = s.sz := put_sz b
      have key : ∀ w2 : World, Only (fun i => i = g) w1 w2 → Blk w2 g 167 (wnCells (s.sz : Int) (some ⟨r, 0, none⟩) ring.length ring.length (((s.l.length + 1) % s.sz : Nat) : Int) (min ((s.count : Int) + 1) (s.sz : Int)) (some ⟨m, 0, none⟩)) → Pwin w2 g G m (s.put b) ∧ Only G w w2 := by
        intro w2 hO2 hB2
        refine ⟨.inl ⟨ring.set (s.l.length % s.sz) b, by rw [open_put h1], hring, h3, fun i hi => Nat.lt_of_lt_of_le (hl1 i hi) hO2.size, some ⟨r, 0, none⟩, ring.length, ?_, .inr ⟨r, rfl, by simp, hr1.only hO2 hrg, hGr, hrg⟩⟩, hO1.trans (hO2.mono (by rintro i rfl; exact h3))⟩
        rw [put_count h1, hsz, hlen, List.length_set]
        exact hB2
      have hOg : ∀ (W : World) (k : Nat) (u : Value), Only (fun i => i = g) W (W.setCell ⟨g, k, none⟩ u) := fun W k u => (Only.refl (fun i => i = g) W).setCell (p := ⟨g, k, none⟩) (.inl rfl) u
      cases wrap with
      | true =>
        have hw := hwr.1 rfl
        rw [if_pos hw] at hm
        simp only [if_true]
        refine key _ (((hOg _ 2 _).trans (hOg _ 2 _)).trans (hOg _ 3 _)) ?_
        rw [hm]
        exact ((hB1.put 2 (.int .i64 ((s.l.length % s.sz : Nat) + 1 : Int))).put 2 (.int .i64 0)).put 3 (.int .i64 (min ((s.count : Int) + 1) (s.sz : Int)))
      | false =>
        have hw : ¬ s.l.length % s.sz + 1 = s.sz := fun h => by have := hwr.2 h; cases this
        rw [if_neg hw] at hm
        simp only [Bool.false_eq_true, if_false]
        refine key _ ((hOg _ 2 _).trans (hOg _ 3 _)) ?_
        rw [hm]
        exact (hB1.put 2 (.int .i64 ((s.l.length % s.sz : Nat) + 1 : Int))).put 3 (.int .i64 (min ((s.count : Int) + 1) (s.sz : Int)))

set_option maxRecDepth 100000 in
set_option maxHeartbeats 4000000 in
theorem wput_any (h : Pwin w g G m s) (hz : s.sz ≤ 1048576) (hl : s.l.length ≤ 1000000000) :
    Calls Tryz.prog 104 #[.pointer (some ⟨g, 0, none⟩), .int .u8 (b.toNat : Int)] w (OwnPost (fun w' G' => Pwin w' g G' m (s.put b)) w G (.tuple #[])) := by
  rcases h with ⟨ring, h⟩ | h
  · have hsz := h.2.1.1
    have hle := h.2.1.2.1
    have hle2 := h.2.1.2.2.1
    have hnz : s.l.length % s.sz < s.sz := Nat.mod_lt _ hsz
    obtain ⟨nx, hx⟩ : ∃ nx, s.l.length % s.sz = nx := ⟨_, rfl⟩
    rw [hx] at hnz hle2
    have hcs : s.count ≤ s.sz := count_le
    have z0 : ((s.sz : Int) == 0) = false := by simp; omega
    have e1 : IntKind.i64.wrap ((nx : Int) + 1) = (nx : Int) + 1 := IntWalk.i64_in _ (by omega)
    have e2 : IntKind.i64.wrap ((s.count : Int) + 1) = (s.count : Int) + 1 := IntWalk.i64_in _ (by omega)
    by_cases hf : nx = ring.length
    · have K := Lib.hid (fun n => wgrow_any (w := w.drewN n) (g := g) (m := m) (G := G) (s := s) (ring := ring) h hz (by omega))
      have q0 : ((nx : Int) == (ring.length : Int)) = true := by rw [hf]; simp
      obtain ⟨A, c, hB, _⟩ := h.2.2.2.2
      rw [hx] at hB
      have c0 : w.cell? ⟨g, 0, none⟩ = some (.int .i64 (s.sz : Int)) := hB.cell 0
      have c1 : w.cell? ⟨g, 1, none⟩ = some (.slice A ring.length c) := hB.cell 1
      have c2 : w.cell? ⟨g, 2, none⟩ = some (.int .i64 (nx : Int)) := hB.cell 2
      have HF := Lib.hid hf
      have HG := Lib.hid h.2.2.1
      clear hB h hf hle hle2 hz hl hsz hcs hnz
      go_enter Tryz.func104, Tryz.ntmps104
      go_wp2_with fail
      go_region
      go_wp2_with fail
      refine (K.out _).mono ?_
      rintro y w1 ⟨rfl, ring', G1, hP, hlt, hG1, hO⟩
      have HP := Lib.hid hP
      have HN : Hid (nx < ring'.length) := Lib.hid (by have := HF.out; omega)
      have HG1 : Hid (∀ i, G1 i → G i ∨ w.heap.size ≤ i) := Lib.hid hG1
      have HO1 : Hid (∀ w2, Only G1 w1 w2 → Only G w w2) := Lib.hid (fun w2 h2 => (Only.of_drewN (hO.mono (S' := G) (by rintro i rfl; exact HG.out))).trans' h2 hG1)
      clear hP hlt hG1 hO c0 c1 c2 K q0 HF HG
      go_wp2_with fail
      obtain ⟨r, c', old, c0, c1, c2, c3, cr, fr, f2, f3, hrg, hend⟩ := put_facts (b := b) HP.out hx HN.out
      have i0 : (0 : Int) ≤ (nx : Int) := by omega
      have i1 : (nx : Int) < (ring'.length : Int) := by have := HN.out; omega
      have hgr : g ≠ r := fun e => hrg e.symm
      by_cases hw : nx + 1 = s.sz
      · have q1 : (((nx : Int) + 1) == (s.sz : Int)) = true := by simp; omega
        have HE := Lib.hid (hend true (by simp [hw]))
        clear hend hw HP HN
        go_region
        go_wp2_with fail
        go_region
        go_wp2_with fail
        go_region
        go_wp2_with fail
        first | go_end0 | refine bodyPost_ret (results_none rfl _ _ _) rfl ?_
        exact ⟨rfl, G1, HE.out.1, HG1.out, HO1.out _ HE.out.2.drew.drew.drew⟩
      · have q1 : (((nx : Int) + 1) == (s.sz : Int)) = false := by simp; omega
        have HE := Lib.hid (hend false (by simp [hw]))
        clear hend hw HP HN
        go_region
        go_wp2_with fail
        go_region
        go_wp2_with fail
        go_region
        go_wp2_with fail
        first | go_end0 | refine bodyPost_ret (results_none rfl _ _ _) rfl ?_
        exact ⟨rfl, G1, HE.out.1, HG1.out, HO1.out _ HE.out.2.drew.drew.drew⟩
    · have q0 : ((nx : Int) == (ring.length : Int)) = false := by simp; omega
      have HP := Lib.hid h
      have HN : Hid (nx < ring.length) := Lib.hid (by omega)
      obtain ⟨A, c, hB, _⟩ := h.2.2.2.2
      rw [hx] at hB
      have c0 : w.cell? ⟨g, 0, none⟩ = some (.int .i64 (s.sz : Int)) := hB.cell 0
      have c1 : w.cell? ⟨g, 1, none⟩ = some (.slice A ring.length c) := hB.cell 1
      have c2 : w.cell? ⟨g, 2, none⟩ = some (.int .i64 (nx : Int)) := hB.cell 2
      clear hB h hf hle hle2 hz hl hsz hcs hnz
      go_enter Tryz.func104, Tryz.ntmps104
      go_wp2_with fail
      go_region
      go_wp2_with fail
      clear c0 c1 c2
      obtain ⟨r, c', old, c0, c1, c2, c3, cr, fr, f2, f3, hrg, hend⟩ := put_facts (b := b) HP.out hx HN.out
      have i0 : (0 : Int) ≤ (nx : Int) := by omega
      have i1 : (nx : Int) < (ring.length : Int) := by have := HN.out; omega
      have hgr : g ≠ r := fun e => hrg e.symm
      by_cases hw : nx + 1 = s.sz
      · have q1 : (((nx : Int) + 1) == (s.sz : Int)) = true := by simp; omega
        have HE := Lib.hid (hend true (by simp [hw]))
        clear hend hw HP HN
        go_region
        go_wp2_with fail
        go_region
        go_wp2_with fail
        go_region
        go_wp2_with fail
        first | go_end0 | refine bodyPost_ret (results_none rfl _ _ _) rfl ?_
        exact ⟨rfl, G, HE.out.1, fun i hi => .inl hi, HE.out.2.drew.drew.drew.drew⟩
      · have q1 : (((nx : Int) + 1) == (s.sz : Int)) = false := by simp; omega
        have HE := Lib.hid (hend false (by simp [hw]))
        clear hend hw HP HN
        go_region
        go_wp2_with fail
        go_region
        go_wp2_with fail
        go_region
        go_wp2_with fail
        first | go_end0 | refine bodyPost_ret (results_none rfl _ _ _) rfl ?_
        exact ⟨rfl, G, HE.out.1, fun i hi => .inl hi, HE.out.2.drew.drew.drew.drew⟩
  · have c0 : w.cell? ⟨g, 0, none⟩ = some (.int .i64 0) := h.2.2.2.cell 0
    have HX := Lib.hid h
    rw [shut_put h.1]
    clear h hz hl
    go_enter Tryz.func104, Tryz.ntmps104
    go_wp2_with fail
    first | go_end0 | refine bodyPost_ret (results_none rfl _ _ _) rfl ?_
    exact ⟨rfl, G, .inr HX.out, fun i hi => .inl hi, Only.refl _ _⟩
end
end Go.Proofs.YtoencondpbkomaaGreatDoor

/-
  The program's window: a copy, a new one.
-/
namespace Go.Proofs.YtoencondpbkomaaGreatDoor
open Go.RowKit

section
variable {w w' : World} {g m : Nat} {G : Nat → Prop} {s : Ws}

set_option maxRecDepth 100000 in
set_option maxHeartbeats 2000000 in
theorem wcopy_any {d : Int} (h : Pwin w g G m s) (hz : s.sz ≤ 1048576) (hl : s.l.length ≤ 1000000000) :
    Calls Tryz.prog 146 #[.pointer (some ⟨g, 0, none⟩), .int .i64 d] w (OwnPost (fun w' G' => Pwin w' g G' m (s.copy d)) w G (.int .u8 ((s.at_ d).toNat : Int))) := by
  have K := Lib.hid (whas_any (d := d) h)
  by_cases hh : s.has d = true
  · have KA := Lib.hid (wat_any (d := d) h hz)
    have KP := Lib.hid (fun n => wput_any (w := w.drewN n) (b := s.at_ d) h hz hl)
    rw [show s.copy d = s.put (s.at_ d) by unfold Ws.copy; rw [if_pos hh]]
    rw [hh] at K
    clear h hh hz hl
    generalize s.at_ d = x at *
    go_enter Tryz.func146, Tryz.ntmps146
    go_wp2_with fail
    refine K.out.mono ?_
    rintro y w1 ⟨rfl, rfl⟩
    clear K
    go_wp2_with fail
    refine KA.out.mono ?_
    rintro y w1 ⟨rfl, k, rfl⟩
    clear KA
    go_wp2_with fail
    refine (KP.out _).mono ?_
    rintro y w2 ⟨rfl, G2, hP, hG, hO⟩
    have HE := Lib.hid (And.intro hP (And.intro hG (Only.of_drewN hO)))
    clear hP hG hO KP
    go_wp2_with fail
    go_ret
    exact ⟨rfl, G2, HE.out.1, HE.out.2.1, HE.out.2.2⟩
  · have hf : s.has d = false := by simpa using hh
    rw [show s.copy d = s by unfold Ws.copy; rw [if_neg hh], at_not hf]
    rw [hf] at K
    have HX := Lib.hid h
    clear h hh hf hz hl
    go_enter Tryz.func146, Tryz.ntmps146
    go_wp2_with fail
    refine K.out.mono ?_
    rintro y w1 ⟨rfl, rfl⟩
    clear K
    go_wp2_with fail
    go_ret
    exact ⟨rfl, G, HX.out, fun i hi => .inl hi, Only.refl _ _⟩

set_option maxRecDepth 100000 in
set_option maxHeartbeats 1000000 in
theorem wnew7_any {q : Quo} {t : Tel} {n : Int} (hM : MeterAt w 83 m q t) (hF : Fine q t) (h0 : -9223372036854775808 ≤ n) (h1 : n ≤ 1048576) (hfit : fits t.code t.mem q.mem (max n 1)) :
    Calls Tryz.prog 64 #[.int .i64 n, .pointer (some ⟨m, 0, none⟩)] w fun x w' =>
      ∃ g G, x = .returned (.tuple #[.pointer (some ⟨g, 0, none⟩), .int .i64 0]) ∧ Pwin w' g G m (Ws.new n) ∧ MeterAt w' 83 m q (t.doMem q (max n 1)) ∧ (∀ i, G i → w.heap.size ≤ i) ∧ Only (fun i => i = m) w w' := by
  have K := Lib.hid (mem_any hM hF (max n 1))
  have hd : decide (fits t.code t.mem q.mem (max n 1)) = true := by simp [hfit]
  rw [hd] at K
  have hend : ∀ w1 : World, MeterAt w1 83 m q (t.doMem q (max n 1)) → w.grownBy w1 (some m) →
      Pwin (w1.alloc (.cells #[.int .i64 (max n 1), .slice none 0 0, .int .i64 0, .int .i64 0, .pointer (some ⟨m, 0, none⟩)] 167)) w1.heap.size (fun i => i = w1.heap.size) m (Ws.new n) ∧
        MeterAt (w1.alloc (.cells #[.int .i64 (max n 1), .slice none 0 0, .int .i64 0, .int .i64 0, .pointer (some ⟨m, 0, none⟩)] 167)) 83 m q (t.doMem q (max n 1)) ∧ (∀ i, i = w1.heap.size → w.heap.size ≤ i) ∧
        Only (fun i => i = m) w (w1.alloc (.cells #[.int .i64 (max n 1), .slice none 0 0, .int .i64 0, .int .i64 0, .pointer (some ⟨m, 0, none⟩)] 167)) := by
    intro w1 hM1 hg
    refine ⟨.inl ⟨[], rfl, ring_new h1, rfl, ?_, none, 0, ?_, .inl ⟨rfl, rfl, rfl⟩⟩, hM1.alloc _, ?_, (Only.of_grown (S := fun i => i = m) hg rfl).alloc _⟩
    · rintro i rfl
      simp
    · have e : (((Ws.new n).sz : Nat) : Int) = max n 1 := by show (((max n 1).toNat : Nat) : Int) = _; omega
      have e2 : (Ws.new n).l.length % (Ws.new n).sz = 0 := Nat.zero_mod _
      have e3 : (Ws.new n).count = 0 := by unfold Ws.count Ws.new; simp
      rw [e, e2, e3]
      exact Blk.fresh w1 _ _
    · rintro i rfl
      exact hg.size
  have HE := Lib.hid hend
  clear hend hM hF h0 h1 hfit hd
  go_enter Tryz.func64, Tryz.ntmps64
  go_wp2_with fail
  refine K.out.mono ?_
  rintro y w1 ⟨rfl, hM1, hg⟩
  have HX := Lib.hid (HE.out w1 hM1 hg)
  clear hM1 hg K HE
  go_wp2_with fail
  go_ret2
  exact ⟨_, _, rfl, HX.out.1, HX.out.2.1, HX.out.2.2.1, HX.out.2.2.2⟩

end
end Go.Proofs.YtoencondpbkomaaGreatDoor

/-
  The program's decoder of LZMA in memory: its numbers, its probabilities, its window, its decoder of ranges.
-/
namespace Go.Proofs.YtoencondpbkomaaGreatDoor
open Go.RowKit

/-- where the number k of its fields lies, all probabilities left out -/
def fat (k : Nat) : Nat := if k < 15 then k else k + 1847
theorem fat_sg {a k : Nat} (h : a < 1847) : fat k ≠ 15 + sg a := by
  have := sg_lt h
  unfold fat
  split <;> omega
theorem fat_inj {j k : Nat} (h : fat j = fat k) : j = k := by
  unfold fat at h
  repeat' split at h
  all_goals omega

/-- Block g is a decoder: its fields, and the probabilities in it. -/
def LzAt (w : World) (g : Nat) (fs : List Value) (ps : List Nat) : Prop :=
  ∃ cs : Array Value, Blk w g 150 cs ∧ cs.size = 1866 ∧ fs.length = 19 ∧ (∀ k, k < 19 → cs[fat k]? = fs[k]?) ∧ ∀ a, a < 1847 → cs[15 + sg a]? = some (.int .u16 ((ps.getD a 0 : Nat) : Int))

section
variable {w w' : World} {g : Nat} {fs : List Value} {ps : List Nat}
theorem LzAt.lt (h : LzAt w g fs ps) : g < w.heap.size := by
  obtain ⟨cs, hB, _⟩ := h
  exact hB.lt
theorem LzAt.only {S : Nat → Prop} (h : LzAt w g fs ps) (hO : Only S w w') (hg : ¬ S g) : LzAt w' g fs ps := by
  obtain ⟨cs, hB, r⟩ := h
  exact ⟨cs, hB.only hO hg, r⟩
theorem LzAt.cell (h : LzAt w g fs ps) (k : Nat) (hk : k < 19) : w.cell? ⟨g, fat k, none⟩ = fs[k]? := by
  obtain ⟨cs, hB, _, _, h1, _⟩ := h
  rw [hB.cell, h1 k hk]
theorem LzAt.free (h : LzAt w g fs ps) (i : Nat) : w.frozen? ⟨g, i, none⟩ = false := by
  obtain ⟨cs, hB, _⟩ := h
  exact hB.free i
theorem LzAt.chance (h : LzAt w g fs ps) {a : Nat} (ha : a < 1847) : w.cell? ⟨g, 15 + sg a, none⟩ = some (.int .u16 ((ps.getD a 0 : Nat) : Int)) := by
  obtain ⟨cs, hB, _, _, _, h2⟩ := h
  rw [hB.cell, h2 a ha]
theorem LzAt.put (h : LzAt w g fs ps) (k : Nat) (hk : k < 19) (v : Value) : LzAt (w.setCell ⟨g, fat k, none⟩ v) g (fs.set k v) ps := by
  obtain ⟨cs, hB, hs, hl, h1, h2⟩ := h
  have hf : fat k < 1866 := by unfold fat; split <;> omega
  refine ⟨_, hB.put (fat k) v, by simp [hs], by simp [hl], fun j hj => ?_, fun a ha => ?_⟩
  · by_cases hjk : j = k
    · subst hjk
      rw [Array.getElem?_setIfInBounds, List.getElem?_set]
      simp [hs, hf, hl, hj]
    · rw [Array.getElem?_setIfInBounds_ne (fun e => hjk (fat_inj e.symm)), List.getElem?_set_ne (fun e => hjk e.symm)]
      exact h1 j hj
  · rw [Array.getElem?_setIfInBounds_ne (fat_sg ha)]
    exact h2 a ha
theorem LzAt.prob (h : LzAt w g fs ps) {a : Nat} (ha : a < 1847) (hl : 1847 ≤ ps.length) (q : Nat) : LzAt (w.setCell ⟨g, 15 + sg a, none⟩ (.int .u16 (q : Int))) g fs (ps.set a q) := by
  obtain ⟨cs, hB, hs, hfl, h1, h2⟩ := h
  have hf := sg_lt ha
  refine ⟨_, hB.put (15 + sg a) _, by simp [hs], hfl, fun j hj => ?_, fun b hb => ?_⟩
  · rw [Array.getElem?_setIfInBounds_ne (fat_sg ha).symm]
    exact h1 j hj
  · by_cases hab : a = b
    · subst hab
      rw [Array.getElem?_setIfInBounds]
      simp only [List.getD, List.getElem?_set]
      simp [hs, show 15 + sg a < 1866 by omega, show a < ps.length by omega]
    · rw [Array.getElem?_setIfInBounds_ne (fun e => hab (sg_inj ha hb (by omega))), h2 b hb]
      simp only [List.getD, List.getElem?_set_ne hab]
theorem LzAt.same {ps' : List Nat} (h : LzAt w g fs ps) (he : ∀ a, a < 1847 → ps'.getD a 0 = ps.getD a 0) : LzAt w g fs ps' := by
  obtain ⟨cs, hB, hs, hfl, h1, h2⟩ := h
  exact ⟨cs, hB, hs, hfl, h1, fun a ha => by rw [he a ha]; exact h2 a ha⟩
end

/-- a row of which the first numbers are told -/
def Rowx (w : World) (b : Nat) (ps : List Nat) (c : Nat) : Prop := ∃ rs, Row w b (ps ++ rs) c ∧ (ps ++ rs).length = c
section
variable {w w' : World} {b c i : Nat} {ps : List Nat}
theorem Rowx.cell (h : Rowx w b ps c) (hi : i < ps.length) : w.cell? ⟨b, i, none⟩ = some (.int .u16 ((ps.getD i 0 : Nat) : Int)) := by
  obtain ⟨rs, h, _⟩ := h
  rw [h.cell (by rw [List.length_append]; omega)]
  simp only [List.getD, List.getElem?_append_left hi]
theorem Rowx.free (h : Rowx w b ps c) (i : Nat) : w.frozen? ⟨b, i, none⟩ = false := by
  obtain ⟨rs, h, _⟩ := h
  exact h.free i
theorem Rowx.put (h : Rowx w b ps c) (hi : i < ps.length) (q : Nat) : Rowx (w.setCell ⟨b, i, none⟩ (.int .u16 (q : Int))) b (ps.set i q) c := by
  obtain ⟨rs, h, hl⟩ := h
  refine ⟨rs, ?_, by simpa using hl⟩
  have := h.put i q
  rw [List.set_append_left _ _ hi] at this
  exact this
theorem Rowx.only {S : Nat → Prop} (h : Rowx w b ps c) (hb : Only S w w') (hS : ¬ S b) : Rowx w' b ps c := by
  obtain ⟨rs, h, hl⟩ := h
  exact ⟨rs, h.only hb hS, hl⟩
theorem Rowx.lt (h : Rowx w b ps c) : b < w.heap.size := by
  obtain ⟨rs, h, _⟩ := h
  exact h.lt
theorem Rowx.most (h : Rowx w b ps c) : ps.length ≤ c := by
  obtain ⟨rs, h, hl⟩ := h
  rw [List.length_append] at hl
  omega
end

/-- what stays where it is: the decoder, the literals' probabilities (so many), window, meter, the decoder of ranges, its feed, its bytes; what the meter gave; the window's size -/
structure Kon where
  g : Nat
  lb : Nat
  nl : Nat
  wg : Nat
  m : Nat
  dg : Nat
  S : Sc
  bs : List UInt8
  room : Int
  sz : Nat
  nc : Nat
  sd : Int
def Kon.Bk (K : Kon) : Nat → Prop := fun i => i = K.g ∨ i = K.lb
def Kon.ad (K : Kon) (a : Nat) : Nat × Nat := if a < 1847 then (K.g, 15 + sg a) else (K.lb, a - 1847)
def Rk (K : Kon) (fs : List Value) (w : World) (ps : List Nat) : Prop := LzAt w K.g fs ps ∧ Rowx w K.lb (ps.drop 1847) K.nc ∧ ps.length = 1847 + K.nl

theorem Kon.prb (K : Kon) (fs : List Value) (hn : K.g ≠ K.lb) : Prb (Rk K fs) K.Bk K.ad (1847 + K.nl) where
  blk {a} _ := by unfold Kon.ad Kon.Bk; split <;> simp
  cell {w ps a} h ha := by
    unfold Kon.ad
    split
    · rename_i h1
      exact h.1.chance h1
    · rename_i h1
      have hlen := h.2.2
      have hi : a - 1847 < (ps.drop 1847).length := by rw [List.length_drop]; omega
      have := h.2.1.cell hi
      dsimp only
      rw [this]
      simp only [List.getD, List.getElem?_drop]
      rw [show 1847 + (a - 1847) = a by omega]
  free {w ps a} h ha := by
    unfold Kon.ad
    split
    · exact h.1.free _
    · exact h.2.1.free _
  put {w ps a} h ha q := by
    have hlen := h.2.2
    unfold Kon.ad
    split
    · rename_i h1
      dsimp only
      refine ⟨h.1.prob h1 (by omega) q, ?_, by rw [List.length_set]; exact hlen⟩
      rw [List.drop_set_of_lt h1]
      exact h.2.1.only ((Only.refl (fun j => j = K.g) w).setCell (p := ⟨K.g, _, none⟩) (.inl rfl) _) (fun e => hn e.symm)
    · rename_i h1
      dsimp only
      refine ⟨(h.1.only ((Only.refl (fun j => j = K.lb) w).setCell (p := ⟨K.lb, _, none⟩) (.inl rfl) _) hn).same (fun b hb => ?_), ?_, by rw [List.length_set]; exact hlen⟩
      · simp only [List.getD]
        rw [List.getElem?_set_ne (by omega)]
      · have := h.2.1.put (i := a - 1847) (by rw [List.length_drop]; omega) q
        have e : (ps.set a q).drop 1847 = (ps.drop 1847).set (a - 1847) q := by
          rw [List.drop_set, if_neg (by omega)]
        rw [e]
        exact this
  only {w w' ps S} h hO hS := ⟨h.1.only hO (hS _ (.inl rfl)), h.2.1.only hO (hS _ (.inr rfl)), h.2.2⟩
  len h := h.2.2
  old {w ps i} h hi := by
    rcases hi with rfl | rfl
    · exact h.1.lt
    · exact h.2.1.lt

/-- its fields -/
def lwFs (K : Kon) (z : Lzs) (left : Nat) : List Value :=
  [.int .i64 (z.lc : Int), .int .i64 (z.lp : Int), .int .i64 (z.pb : Int), .int .i64 K.sd, .iface 103 (.pointer (some ⟨K.S.f, 0, none⟩)), .pointer (some ⟨K.dg, 0, none⟩), .pointer (some ⟨K.wg, 0, none⟩), .pointer (some ⟨K.m, 0, none⟩), .int .i64 K.room,
    .int .i64 (z.out.length : Int), .int .i64 (z.st : Int), .int .u32 (z.r0 : Int), .int .u32 (z.r1 : Int), .int .u32 (z.r2 : Int), .int .u32 (z.r3 : Int), .slice (some ⟨K.lb, 0, none⟩) K.nc K.nc, .int .i64 (left : Int), .bool z.ended, .bool z.bad]

/-- what lies apart -/
structure Apart (K : Kon) (Gw : Nat → Prop) : Prop where
  gl : ¬ K.S.hold K.g ∧ K.g ≠ K.dg
  ll : ¬ K.S.hold K.lb ∧ K.lb ≠ K.dg
  ml : ¬ K.S.hold K.m ∧ K.m < K.dg
  gn : K.g ≠ K.lb
  mg : K.m ≠ K.g
  mb : K.m ≠ K.lb
  nc : K.nl ≤ K.nc ∧ K.nc ≤ 1000000
  wd : ∀ i, Gw i → i ≠ K.g ∧ i ≠ K.lb ∧ i ≠ K.m ∧ ¬ K.S.hold i ∧ i ≠ K.dg
theorem Apart.b0 {K : Kon} {Gw : Nat → Prop} (h : Apart K Gw) : ∀ i, K.Bk i → ¬ K.S.hold i ∧ i ≠ K.dg := by
  rintro i (rfl | rfl)
  · exact h.gl
  · exact h.ll

/-- The decoder, whole. -/
structure Lw (K : Kon) (w : World) (Gw : Nat → Prop) (z : Lzs) (t : Pm Dc) (left : Nat) : Prop where
  mch : Mch (Rk K (lwFs K z left)) K.dg K.S K.bs (1847 + K.nl) w t
  win : Pwin w K.wg Gw K.m ⟨K.sz, z.out, false⟩
  ap : Apart K Gw
/-- what a call turns that leaves the window alone -/
def Kon.own (K : Kon) : Nat → Prop := owns K.S K.dg K.Bk
def MidPost (K : Kon) (w : World) (Gw : Nat → Prop) (v : Value) (z : Lzs) (t : Pm Dc) (left : Nat) (e : Ending) (w' : World) : Prop :=
  e = .returned v ∧ Lw K w' Gw z t left ∧ Only K.own w w'
/-- what a call turns that puts bytes -/
def Kon.all (K : Kon) (Gw : Nat → Prop) : Nat → Prop := fun i => K.own i ∨ Gw i
def PutPost (K : Kon) (w : World) (Gw : Nat → Prop) (v : Value) (z : Lzs) (t : Pm Dc) (left : Nat) (e : Ending) (w' : World) : Prop :=
  e = .returned v ∧ ∃ Gw', Lw K w' Gw' z t left ∧ (∀ i, Gw' i → Gw i ∨ w.heap.size ≤ i) ∧ Only (K.all Gw) w w'

section
variable {K : Kon} {w w' : World} {Gw : Nat → Prop} {z : Lzs} {t : Pm Dc} {left : Nat}
theorem Lw.dec (h : Lw K w Gw z t left) : LzAt w K.g (lwFs K z left) t.ps := h.mch.row.1
theorem Apart.own (h : Apart K Gw) (hS : ScOk K.S) {i : Nat} (hi : Gw i) : ¬ K.own i := by
  obtain ⟨h1, h2, h3, h4, h5⟩ := h.wd i hi
  rintro (e | e | e | e)
  · exact h4 (hS.tf _ e)
  · exact h5 e
  · exact h1 e
  · exact h2 e
theorem Mch.prb (_ : Mch (Rk K (lwFs K z left)) K.dg K.S K.bs (1847 + K.nl) w t) (hn : K.g ≠ K.lb) : Prb (Rk K (lwFs K z left)) K.Bk K.ad (1847 + K.nl) := K.prb _ hn
theorem Lw.drewN (h : Lw K w Gw z t left) (n : Nat) : Lw K (w.drewN n) Gw z t left :=
  ⟨⟨h.mch.sc, h.mch.pd.drewN h.mch.sc n, (K.prb _ h.ap.gn).only h.mch.row ((Only.refl (fun _ => False) w).drewN n) (fun _ _ h => h), h.mch.ok⟩, h.win.only ((Only.refl (fun _ => False) w).drewN n) (fun _ _ h => h), h.ap⟩
/-- a call of the decoder of ranges -/
theorem Lw.bits {v : Value} {t' : Pm Dc} {e : Ending} (h : Lw K w Gw z t left) (hp : MPost (Rk K (lwFs K z left)) K.Bk K.dg K.S K.bs (1847 + K.nl) w v t' e w') : MidPost K w Gw v z t' left e w' :=
  ⟨hp.1, ⟨hp.2.1, h.win.only hp.2.2 (fun _ hi => h.ap.own h.mch.sc hi), h.ap⟩, hp.2.2⟩
/-- a field is stored -/
theorem Lw.put (h : Lw K w Gw z t left) (k : Nat) (hk : k < 19) (v : Value) {z' : Lzs} {left' : Nat} (hz : (lwFs K z left).set k v = lwFs K z' left') (ho : z'.out = z.out) : Lw K (w.setCell ⟨K.g, fat k, none⟩ v) Gw z' t left' := by
  have hO := (Only.refl (fun j => j = K.g) w).setCell (p := ⟨K.g, fat k, none⟩) (.inl rfl) v
  refine ⟨⟨h.mch.sc, h.mch.pd.only h.mch.sc hO (fun i hi => hi ▸ h.ap.gl), ⟨?_, h.mch.row.2.1.only hO (fun e => h.ap.gn e.symm), h.mch.row.2.2⟩, h.mch.ok⟩, ?_, h.ap⟩
  · have := h.dec.put k hk v
    rw [hz] at this
    exact this
  · rw [ho]
    exact h.win.only hO (fun i hi e => (h.ap.wd i hi).1 e)
theorem Only.own_put (h : Only K.own w w') (k : Nat) (v : Value) : Only K.own w (w'.setCell ⟨K.g, fat k, none⟩ v) := h.setCell (p := ⟨K.g, fat k, none⟩) (.inl (.inr (.inr (.inl rfl)))) v
theorem MidPost.trans {w1 : World} {v : Value} {z' : Lzs} {t' : Pm Dc} {left' : Nat} {e : Ending} (h : Only K.own w w1) (hp : MidPost K w1 Gw v z' t' left' e w') : MidPost K w Gw v z' t' left' e w' := ⟨hp.1, hp.2.1, h.trans hp.2.2⟩
end
end Go.Proofs.YtoencondpbkomaaGreatDoor
