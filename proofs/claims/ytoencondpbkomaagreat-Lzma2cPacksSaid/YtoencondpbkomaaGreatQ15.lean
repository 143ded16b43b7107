/-
  PsAdd, PsAddN, PsEld, PsLgst, PsLong2: put together.
-/
import Derived.Test.YtoencondpbkomaaGreatQ14
import Derived.Test.YtoencondpbkomaaGreatQ01
import Derived.Deep.AppendLies
import Derived.Deep.RegionLaw
import Derived.Laws.MakeOwn
import Derived.Deep.RegionHeld3
set_option linter.unusedVariables false
set_option linter.unusedSimpArgs false
/-
  The program's lists of places: places come into them.
-/
namespace Go.Proofs.YtoencondpbkomaaGreat
open Go.RowKit

theorem info_p32 : (Tryz.prog.info? 48).map (fun i => (i.zero, i.size, i.bytes)) = some (some (.int .u32 0), 1, 4) := by kernel_rfl
def lsV (ql sz : Nat) : Value := .slice (some ⟨ql, 0, none⟩) sz sz
def asV (qa cnt ca : Nat) : Value := .slice (some ⟨qa, 0, none⟩) cnt ca
/-- the finder whose lists are made -/
structure Fm (w : World) (g : Nat) (G : Nat → Prop) (A : Option Addr) (n c dict : Nat) (b : List UInt8) (s : Ps) (cnt sz ql qa ca : Nat) (cs : Array Value) : Prop where
  fq : Fq w g A n c dict b s (lsV ql sz) (asV qa cnt ca)
  md : Md w b cnt sz ql qa ca cs
  gg : G g
  gl : G ql
  ga : G qa
  lt : ∀ i, G i → i < w.heap.size
  ap : 0 < n → ∀ q o, A = some ⟨q, o, none⟩ → ¬ G q
  n1 : ql ≠ g
  n2 : qa ≠ g
section
variable {w w1 w3 : World} {g : Nat} {G : Nat → Prop} {A : Option Addr} {n c dict : Nat} {b : List UInt8} {s : Ps} {cnt sz ql qa ca : Nat} {cs : Array Value}
theorem Fm.drewN (h : Fm w g G A n c dict b s cnt sz ql qa ca cs) (k : Nat) : Fm (w.drewN k) g G A n c dict b s cnt sz ql qa ca cs := ⟨h.fq.drewN k, h.md.drewN k, h.gg, h.gl, h.ga, h.lt, h.ap, h.n1, h.n2⟩
theorem Fm.push (h : Fm w g G A n c dict b s cnt sz ql qa ca cs) (h1 : Only (fun _ => False) w w1) {q' c' : Nat}
    (ho : w3.ownsRow 0 48 1 (.slice (some ⟨q', 0, none⟩) (cnt + 1) c') (cnt + 1) (prevs b sz cnt ++ [.int .u32 ((lastN (hashP b sz) (hashP b sz cnt) cnt : Nat) : Int)])) (hg : w1.grownBy w3 (some qa)) (hq : qa = q' ∨ q' = w1.heap.size) :
    w3.cell? ⟨g, 9, none⟩ = some (asV qa cnt ca) ∧ w3.frozen? ⟨g, 9, none⟩ = false ∧
    (w3.setCell ⟨g, 9, none⟩ (asV q' (cnt + 1) c')).cell? ⟨ql, hashP b sz cnt, none⟩ = some (.int .u32 ((lastN (hashP b sz) (hashP b sz cnt) cnt : Nat) : Int)) ∧ (w3.setCell ⟨g, 9, none⟩ (asV q' (cnt + 1) c')).frozen? ⟨ql, hashP b sz cnt, none⟩ = false ∧
    Fm ((w3.setCell ⟨g, 9, none⟩ (asV q' (cnt + 1) c')).setCell ⟨ql, hashP b sz cnt, none⟩ (.int .u32 ((cnt + 1 : Nat) : Int))) g (fun i => G i ∨ i = q') A n c dict b s (cnt + 1) sz ql q' c' (cs.setIfInBounds (hashP b sz cnt) (.int .u32 ((cnt + 1 : Nat) : Int))) ∧
    Only G w ((w3.setCell ⟨g, 9, none⟩ (asV q' (cnt + 1) c')).setCell ⟨ql, hashP b sz cnt, none⟩ (.int .u32 ((cnt + 1 : Nat) : Int))) ∧ (G q' ∨ w.heap.size ≤ q') := by
  have hg0 := h.lt g h.gg
  have hl0 := h.lt ql h.gl
  have ha0 := h.lt qa h.ga
  have hs1 := h1.size
  have hs3 := hg.size
  have hne := h.md.ne
  have n1 := h.n1
  have n2 := h.n2
  have hqg : q' ≠ g ∧ q' ≠ ql := by rcases hq with h | h <;> omega
  have hu : hashP b sz cnt < sz := hash_lt h.md.s1
  have hq3 : q' < w3.heap.size := (World.ownsRow.lt ho q' rfl).2
  have hB1 := h.fq.f.only h1 (fun h => h)
  have hB3 := hB1.grown hg (by intro e; injection e with e; exact n2 e.symm)
  have hL1 := h.md.lb.only h1 (fun h => h)
  have hL3 := hL1.grown hg (by intro e; injection e with e; exact hne e)
  have hB4 := hB3.put 9 (asV q' (cnt + 1) c')
  have hL4 := hL3.far (p := ⟨g, 9, none⟩) n1 (asV q' (cnt + 1) c')
  have hO3 : Only G w w3 := (h1.mono (fun _ h => h.elim)).trans (Only.of_grown hg h.ga)
  have hO4 := hO3.setCell (p := ⟨g, 9, none⟩) (.inl h.gg) (asV q' (cnt + 1) c')
  have hO5 := hO4.setCell (p := ⟨ql, hashP b sz cnt, none⟩) (.inl h.gl) (.int .u32 ((cnt + 1 : Nat) : Int))
  have hnew : G q' ∨ w.heap.size ≤ q' := by
    rcases hq with h' | h'
    · exact .inl (h' ▸ h.ga)
    · exact .inr (by omega)
  refine ⟨hB3.cell 9, hB3.free 9, (hL4.cell _).trans (h.md.lv _ hu), hL4.free _, ⟨⟨hB4.far (p := ⟨ql, hashP b sz cnt, none⟩) (fun e => n1 e.symm) _, h.fq.sl.only hO5 h.ap, h.fq.n1, h.fq.i1, h.fq.d1, h.fq.d2, h.fq.lit⟩, ⟨hL4.put _ _, ?_, fun v hv => ?_, ?_, h.md.s1, h.md.s2, fun e => hqg.2 e.symm⟩, .inl h.gg, .inl h.gl, .inr rfl, ?_, ?_, n1, hqg.1⟩, hO5, hnew⟩
  · rw [Array.size_setIfInBounds]
    exact h.md.lz
  · have hz := h.md.lz
    have e : lastN (hashP b sz) v (cnt + 1) = if hashP b sz cnt = v then cnt + 1 else lastN (hashP b sz) v cnt := rfl
    rw [e, Array.getElem?_setIfInBounds]
    by_cases hv' : hashP b sz cnt = v
    · rw [if_pos hv', if_pos hv', if_pos (by omega)]
    · rw [if_neg hv', if_neg hv']
      exact h.md.lv v hv
  · rw [prevs_succ]
    have hO : Only (fun i => i = g ∨ i = ql) w3 ((w3.setCell ⟨g, 9, none⟩ (asV q' (cnt + 1) c')).setCell ⟨ql, hashP b sz cnt, none⟩ (.int .u32 ((cnt + 1 : Nat) : Int))) :=
      ((Only.refl _ w3).setCell (p := ⟨g, 9, none⟩) (.inl (.inl rfl)) _).setCell (p := ⟨ql, hashP b sz cnt, none⟩) (.inl (.inr rfl)) _
    exact own_only ho hO (by rintro (e | e); exact hqg.1 e; exact hqg.2 e)
  · have := hO5.size
    rintro i (hi | rfl)
    · have := h.lt i hi
      omega
    · simpa [World.setCell] using hq3
  · rintro hn q o e (hi | rfl)
    · exact h.ap hn q o e hi
    · rcases hnew with h' | h'
      · exact h.ap hn _ o e h'
      · obtain ⟨b', o', e', hlt, _⟩ := h.fq.sl.2 hn
        rw [e] at e'
        injection e' with e'
        injection e' with e'
        omega

/-- what adding owes -/
def AddPost (w : World) (g : Nat) (G : Nat → Prop) (A : Option Addr) (n c dict : Nat) (b : List UInt8) (s : Ps) (cnt : Nat) (x : Ending) (w' : World) : Prop :=
  x = .returned (.tuple #[]) ∧ ∃ (G' : Nat → Prop) (sz ql qa ca : Nat) (cs : Array Value), Fm w' g G' A n c dict b s cnt sz ql qa ca cs ∧ (∀ i, G' i → G i ∨ w.heap.size ≤ i) ∧ Only G w w'
theorem nw_trans {w wr : World} {G G1 G2 : Nat → Prop} (h : ∀ i, G1 i → G i ∨ w.heap.size ≤ i) (h2 : ∀ i, G2 i → G1 i ∨ wr.heap.size ≤ i) (hs : w.heap.size ≤ wr.heap.size) : ∀ i, G2 i → G i ∨ w.heap.size ≤ i := fun i hi => by
  rcases h2 i hi with h' | h'
  · exact h i h'
  · exact .inr (by omega)
theorem only_nw {w wr w' : World} {G G1 : Nat → Prop} (hO : Only G w wr) (h : ∀ i, G1 i → G i ∨ w.heap.size ≤ i) (h2 : Only G1 wr w') : Only G w w' := hO.trans' h2 h

set_option maxRecDepth 100000 in
set_option maxHeartbeats 8000000 in
/-- the loop of adding, from a world in which the lists are made -/
theorem padd_made {e : Nat} (h : Fm w g G A n c dict b s cnt sz ql qa ca cs) (hc : cnt ≤ e) (he : e < n) :
    Calls Tryz.prog 105 #[.pointer (some ⟨g, 7, none⟩), .int .i64 (e : Int)] w (AddPost w g G A n c dict b s e) := by
  have c8 : w.cell? ⟨g, 8, none⟩ = some (.slice (some ⟨ql, 0, none⟩) sz sz) := h.fq.f.cell 8
  have c9 : w.cell? ⟨g, 9, none⟩ = some (.slice (some ⟨qa, 0, none⟩) cnt ca) := h.fq.f.cell 9
  have hnil : ∀ W : World, (binOp .eql 116 (.slice (some ⟨ql, 0, none⟩) sz sz) (.slice none 0 0)).run Tryz.prog W = .ok (.bool false) W := fun _ => by kernel_rfl
  have HF := Lib.hid h
  have HE := Lib.hid (show cnt ≤ e ∧ e < n ∧ n ≤ 1000000000 from ⟨hc, he, h.fq.n1⟩)
  clear h hc he
  go_enter Tryz.func105, Tryz.ntmps105
  go_wp2_with fail
  clear c8 c9 hnil
  go_loopw [4] (fun v wr => ∃ (j : Nat) (G' : Nat → Prop) (qa ca : Nat) (cs : Array Value), j ≤ e ∧ v = .int .i64 (j : Int) ∧ Fm wr g G' A n c dict b s j sz ql qa ca cs ∧ (∀ i, G' i → G i ∨ w.heap.size ≤ i) ∧ Only G w wr) (fun v _ => e - (intOf v).toNat)
  case atStart => exact ⟨cnt, G, qa, ca, cs, HE.out.1, rfl, HF.out, fun i hi => .inl hi, Only.refl _ _⟩
  case round =>
    clear HF
    obtain ⟨j, G', qa, ca, cs, hj, rfl, hf, hnw, hO⟩ := hrel
    obtain ⟨_, he, hn⟩ := HE.out
    have HNW := Lib.hid hnw
    have HO := Lib.hid hO
    have HF := Lib.hid hf
    have hs := hO.size
    by_cases hlt : j < e
    · have i1 : (j : Int) < (e : Int) := by omega
      have K := Lib.hid (plist_any (p := j) (hf.fq.f.cell 7) (hf.fq.f.cell 8) hf.fq.sl hn (by omega) hf.md.s1 hf.md.s2)
      have HLT := Lib.hid hlt
      have HHS := Lib.hid hs
      clear hj hnw hO he hn hlt hs hf
      go_wp2_with fail
      refine K.out.mono ?_
      rintro x w1 ⟨rfl, k1, rfl⟩
      have hf := HF.out.drewN k1
      have HO1 := Lib.hid (HO.out.drewN k1)
      have HS1 := Lib.hid (show w.heap.size ≤ (wr.drewN k1).heap.size from HHS.out)
      clear K HO HF HHS
      generalize wr.drewN k1 = w2 at *
      obtain ⟨i, hi, hz0, hz1, hz2⟩ := info_parts info_p32
      have hu : hashP b sz j < sz := hash_lt hf.md.s1
      have c9 : w2.cell? ⟨g, 9, none⟩ = some (.slice (some ⟨qa, 0, none⟩) j ca) := hf.fq.f.cell 9
      have cu : w2.cell? ⟨ql, hashP b sz j, none⟩ = some (.int .u32 ((lastN (hashP b sz) (hashP b sz j) j : Nat) : Int)) := hf.md.lcell hu
      have HPU := Lib.hid (fun (k : Nat) (o : Obj) (q' c' : Nat) (w3 : World) (ho : w3.ownsRow 0 48 1 (.slice (some ⟨q', 0, none⟩) (j + 1) c') (j + 1) (prevs b sz j ++ [.int .u32 ((lastN (hashP b sz) (hashP b sz j) j : Nat) : Int)])) (hg : ((w2.drewN k).alloc o).grownBy w3 (some qa)) (hq : (some qa : Option Nat) = some q' ∨ q' = ((w2.drewN k).alloc o).heap.size) =>
        hf.push (((Only.refl (fun _ => False) w2).drewN k).alloc o) ho hg (hq.imp (fun h => by injection h) id))
      have HOA := Lib.hid (fun (k : Nat) (o : Obj) => World.ownsRow.alloc (show (w2.drewN k).ownsRow 0 48 1 (.slice (some ⟨qa, 0, none⟩) j ca) j (prevs b sz j) from hf.md.ar) o)
      have HNE := Lib.hid (fun (k : Nat) (u : Value) => (sl_one (w2.drewN k) 48 u).news)
      have c9a : (w2.alloc (.cells #[.int .u32 ((lastN (hashP b sz) (hashP b sz j) j : Nat) : Int)] 48)).cell? ⟨g, 9, none⟩ = some (.slice (some ⟨qa, 0, none⟩) j ca) := (hf.fq.f.alloc _).cell 9
      have HJ := Lib.hid (show j < e ∧ e < n ∧ n ≤ 1000000000 from ⟨HLT.out, HE.out.2⟩)
      have e1 : IntKind.i64.wrap ((j : Int) + 1) = (j : Int) + 1 := IntWalk.i64_in _ (by have := HJ.out; omega)
      have e2 : IntKind.u32.wrap ((j : Int) + 1) = (j : Int) + 1 := by have := HJ.out; simp [IntKind.wrap, IntKind.bits, IntKind.signed]; omega
      obtain ⟨u, hu0⟩ : ∃ u, u = hashP b sz j := ⟨_, rfl⟩
      obtain ⟨l, hl0⟩ : ∃ l, l = lastN (hashP b sz) u j := ⟨_, rfl⟩
      rw [← hu0, ← hl0] at cu HPU c9a
      rw [← hu0]
      clear hf hu HLT hu0 hl0
      go_wp2_with fail
      go_region_law (first | (refine step_append_lies _ rfl (.tmp 50) (.tmp 54) 116 rfl 0 48 i _ 1 4 Tryz.underlying116 hi hz0 hz1 hz2 rfl (by omega) _ j (prevs b sz j) rfl (HOA.out 1 _) _ 1 1 [.int .u32 (l : Int)] rfl rfl (HNE.out 1 _) (one_one _ _) (by omega) (by have := HJ.out; unfold maxLen; omega) (by have := HJ.out; omega) (Nat.zero_le _) _ rfl ?_; intro q' c' w3 ho hg hq hql3; obtain ⟨j9, z9, hP⟩ := HPU.out 1 _ q' c' w3 ho hg hq; have HP := Lib.hid hP; clear ho hg hq hP))
      all_goals
        clear c9 cu c9a HPU HOA HNE j9 z9
        obtain ⟨t1, t2, hF3, hO3, hn3⟩ := HP.out
        clear HP
        have HF3 := Lib.hid hF3
        have HO3 := Lib.hid hO3
        have HN3 := Lib.hid hn3
        clear hF3 hO3 hn3
        unfold asV at t1 t2 HF3 HO3
        generalize w3.setCell ⟨g, 9, none⟩ (.slice (some ⟨q', 0, none⟩) (j + 1) c') = w4 at *
        go_wp2_with fail
        go_roundw
        case rel => exact ⟨j + 1, _, q', c', _, by have := HJ.out; omega, by go_num, HF3.out, nw_trans HNW.out (fun i hi => by rcases hi with hi | rfl; exact .inl hi; exact HN3.out) HS1.out, only_nw HO1.out HNW.out HO3.out⟩
        case measure => have := HJ.out; simp [intOf]; omega
    · obtain rfl : j = e := by omega
      clear hj hnw hO hs hf he hn
      go_wp2_with fail
      first | go_end0 | refine bodyPost_ret (results_none rfl _ _ _) rfl ?_
      exact ⟨rfl, G', sz, ql, qa, ca, cs, HF.out, HNW.out, HO.out⟩
end
end Go.Proofs.YtoencondpbkomaaGreat

/-
  The program's lists of places: they are made, and places come into them.
-/
namespace Go.Proofs.YtoencondpbkomaaGreat
open Go.RowKit

/-- the finder whose lists aren't made -/
structure Fu (w : World) (g : Nat) (G : Nat → Prop) (A : Option Addr) (n c dict : Nat) (b : List UInt8) (s : Ps) : Prop where
  fq : Fq w g A n c dict b s (.slice none 0 0) (.slice none 0 0)
  gg : G g
  lt : ∀ i, G i → i < w.heap.size
  ap : 0 < n → ∀ q o, A = some ⟨q, o, none⟩ → ¬ G q
theorem made_get (k v : Nat) (h : v < k) : (madeCells #[.int .u32 0] k)[v]? = some (.int .u32 0) := by
  unfold madeCells
  simp [h, Nat.mod_one]
theorem made_size (k : Nat) : (madeCells #[.int .u32 0] k).size = k := by rw [size_madeCells]
section
variable {w : World} {g : Nat} {G : Nat → Prop} {A : Option Addr} {n c dict : Nat} {b : List UInt8} {s : Ps}
/-- the lists are made -/
theorem Fu.made (h : Fu w g G A n c dict b s) {w0 : World} (hw0 : Only (fun _ => False) w w0) {S : Nat} (h1 : 1 ≤ S) (h2 : S ≤ 65536) {q2 : Nat} {w1 w2 w3 w4 : World} (e1 : w1 = w0.alloc (.cells (madeCells #[.int .u32 0] S) 48)) (e2 : w2 = w1.setCell ⟨g, 8, none⟩ (lsV w0.heap.size S))
    (e3 : w3 = w2.alloc (.cells (madeCells #[.int .u32 0] n) 48)) (e4 : w4 = w3.setCell ⟨g, 9, none⟩ (asV q2 0 n)) (hq2 : q2 = w0.heap.size + 1) :
    w1.cell? ⟨g, 8, none⟩ = some (.slice none 0 0) ∧ w1.frozen? ⟨g, 8, none⟩ = false ∧ w2.cell? ⟨g, 7, none⟩ = some (.slice A n c) ∧ w3.cell? ⟨g, 9, none⟩ = some (.slice none 0 0) ∧ w3.frozen? ⟨g, 9, none⟩ = false ∧
    ∃ G', Fm w4 g G' A n c dict b s 0 S w0.heap.size q2 n (madeCells #[.int .u32 0] S) ∧ (∀ i, G' i → G i ∨ w.heap.size ≤ i) ∧ Only G w w4 := by
  have hg0 := h.lt g h.gg
  have hs0 := hw0.size
  have hz1 : w1.heap.size = w0.heap.size + 1 := by rw [e1]; simp
  have hz2 : w2.heap.size = w0.heap.size + 1 := by rw [e2]; simpa using hz1
  have hq2' : w2.heap.size = q2 := by omega
  have hz3 : w3.heap.size = w0.heap.size + 2 := by rw [e3]; simp [hz2]
  have hz4 : w4.heap.size = w0.heap.size + 2 := by rw [e4]; simpa using hz3
  have hB0 := h.fq.f.only hw0 (fun h => h)
  have hB1 := hB0.alloc (.cells (madeCells #[.int .u32 0] S) 48)
  rw [← e1] at hB1
  have hL1 := Blk.fresh w0 48 (madeCells #[.int .u32 0] S)
  rw [← e1] at hL1
  have hB2 := hB1.put 8 (lsV w0.heap.size S)
  rw [← e2] at hB2
  have hL2 := hL1.far (p := ⟨g, 8, none⟩) (by show w0.heap.size ≠ g; omega) (lsV w0.heap.size S)
  rw [← e2] at hL2
  have hB3 := hB2.alloc (.cells (madeCells #[.int .u32 0] n) 48)
  rw [← e3] at hB3
  have hL3 := hL2.alloc (.cells (madeCells #[.int .u32 0] n) 48)
  rw [← e3] at hL3
  have hA3 := Blk.fresh w2 48 (madeCells #[.int .u32 0] n)
  rw [← e3, hq2'] at hA3
  have hB4 := hB3.put 9 (asV q2 0 n)
  rw [← e4] at hB4
  have hL4 := hL3.far (p := ⟨g, 9, none⟩) (by show w0.heap.size ≠ g; omega) (asV q2 0 n)
  rw [← e4] at hL4
  have hA4 := hA3.far (p := ⟨g, 9, none⟩) (by show q2 ≠ g; omega) (asV q2 0 n)
  rw [← e4] at hA4
  have hO : Only G w w4 := by
    rw [e4, e3, e2, e1]
    exact ((((hw0.mono (fun _ h => h.elim)).alloc _).setCell (p := ⟨g, 8, none⟩) (.inl h.gg) _).alloc _).setCell (p := ⟨g, 9, none⟩) (.inl h.gg) _
  have hn := h.fq.n1
  refine ⟨hB1.cell 8, hB1.free 8, hB2.cell 7, hB3.cell 9, hB3.free 9, fun i => G i ∨ i = w0.heap.size ∨ i = q2, ⟨⟨hB4, h.fq.sl.only hO h.ap, h.fq.n1, h.fq.i1, h.fq.d1, h.fq.d2, h.fq.lit⟩, ⟨hL4, made_size S, fun v hv => made_get S v hv, ?_, h1, h2, by omega⟩, .inl h.gg, .inr (.inl rfl), .inr (.inr rfl), ?_, ?_, by omega, by omega⟩, ?_, hO⟩
  · exact ⟨rfl, .inr ⟨q2, n, _, rfl, Nat.zero_le _, hA4, Nat.zero_le _, by unfold maxLen; omega, by rw [made_size]; simp, rfl⟩⟩
  · rintro i (hi | rfl | rfl)
    · have := h.lt i hi
      omega
    · omega
    · omega
  · rintro hn0 q o e (hi | hi | hi)
    · exact h.ap hn0 q o e hi
    · obtain ⟨b', o', e', hlt, _⟩ := h.fq.sl.2 hn0
      rw [e] at e'
      injection e' with e'
      injection e' with e'
      omega
    · obtain ⟨b', o', e', hlt, _⟩ := h.fq.sl.2 hn0
      rw [e] at e'
      injection e' with e'
      injection e' with e'
      omega
  · rintro i (hi | rfl | rfl)
    · exact .inl hi
    · exact .inr hs0
    · exact .inr (by omega)

set_option maxRecDepth 100000 in
set_option maxHeartbeats 8000000 in
theorem padd_new {e : Nat} (h : Fu w g G A n c dict b s) (he : e < n) :
    Calls Tryz.prog 105 #[.pointer (some ⟨g, 7, none⟩), .int .i64 (e : Int)] w (AddPost w g G A n c dict b s e) := by
  have c7 : w.cell? ⟨g, 7, none⟩ = some (.slice A n c) := h.fq.f.cell 7
  have c8 : w.cell? ⟨g, 8, none⟩ = some (.slice none 0 0) := h.fq.f.cell 8
  have hnil : ∀ W : World, (binOp .eql 116 (.slice none 0 0) (.slice none 0 0)).run Tryz.prog W = .ok (.bool true) W := fun _ => by kernel_rfl
  have hn1 := h.fq.n1
  have KL := Lib.hid (plen_any (x := n) (by omega) w)
  have e0 : IntKind.u64.wrap (n : Int) = (n : Int) := u64_in _ (by omega)
  have HF := Lib.hid h
  have HE := Lib.hid (show 0 ≤ e ∧ e < n ∧ n ≤ 1000000000 from ⟨Nat.zero_le _, he, hn1⟩)
  clear h he hn1
  go_enter Tryz.func105, Tryz.ntmps105
  go_wp2_with fail
  refine KL.out.mono ?_
  rintro x w0 ⟨⟨k, hk, rfl⟩, rfl⟩
  clear KL
  obtain ⟨S, hS⟩ : ∃ S, S = min (2 ^ k) 65536 := ⟨_, rfl⟩
  have hp1 : 1 ≤ 2 ^ k := Nat.one_le_two_pow
  have hp2 : 2 ^ k ≤ 2 ^ 32 := Nat.pow_le_pow_right (by omega) hk
  have hSS : 1 ≤ S ∧ S ≤ 65536 := by omega
  have ek : min k 64 = k := by omega
  have ep : ((2 : Int) ^ k) = ((2 ^ k : Nat) : Int) := cast_pow2 k
  have ew : wrap64 ((2 : Int) ^ k) = ((2 ^ k : Nat) : Int) := by rw [ep]; exact IntWalk.wrap64_in _ ⟨by omega, by omega⟩
  have ew2 : IntKind.i64.wrap ((2 : Int) ^ k) = ((2 ^ k : Nat) : Int) := by rw [ep]; exact IntWalk.i64_in _ (by omega)
  have k0 : (0 : Int) ≤ (k : Int) := by omega
  have k1 : (k : Int) ≤ 64 := by omega
  have hm := min2_int (P := Tryz.prog) #[3, 3] 3 ((2 ^ k : Nat) : Int) 65536 (S : Int) (by omega)
  obtain ⟨P2, hP2⟩ : ∃ P2, P2 = 2 ^ k := ⟨_, rfl⟩
  rw [← hP2] at ew ew2 hm hS hp1 hp2
  clear ep hP2
  have HSS := Lib.hid hSS
  obtain ⟨i, hi, hz0, hz1, hz2⟩ := info_parts info_p32
  have hmk : ∀ W : World, (Instr.makeSlice 116 (.int .i64 (S : Int)) (.int .i64 (S : Int))).run Tryz.prog W = .ok (.slice (some ⟨W.heap.size, 0, none⟩) S S) (W.alloc (.cells (madeCells #[.int .u32 0] S) 48)) := by
    intro W
    have := run_make (P := Tryz.prog) W 116 48 i (.int .u32 0) Tryz.underlying116 hi hz0 .i64 .i64 (S : Int) (S : Int) (by omega) (Int.le_refl _) (by rw [hz2]; omega) (by omega)
    rw [hz1, Int.toNat_natCast, Nat.mul_one] at this
    exact this
  have hmk2 : ∀ W : World, (Instr.makeSlice 116 (.int .i64 0) (.int .i64 (n : Int))).run Tryz.prog W = .ok (.slice (some ⟨W.heap.size, 0, none⟩) 0 n) (W.alloc (.cells (madeCells #[.int .u32 0] n) 48)) := by
    intro W
    have hn1 := HE.out.2.2
    have := run_make (P := Tryz.prog) W 116 48 i (.int .u32 0) Tryz.underlying116 hi hz0 .i64 .i64 0 (n : Int) (by omega) (by omega) (by rw [hz2]; omega) (by omega)
    rw [hz1, Int.toNat_natCast, Nat.mul_one] at this
    exact this
  obtain ⟨d1, d2, d3, d4, d5, G5, hF4, hN4, hO4⟩ := HF.out.made (Only.refl _ w) hSS.1 hSS.2 (q2 := w.heap.size + 1) rfl rfl rfl rfl rfl
  unfold lsV at d3 d4 d5
  unfold lsV asV at hF4 hO4
  have HN4 := Lib.hid hN4
  have HO4 := Lib.hid hO4
  have HF4 := Lib.hid hF4
  clear hi hz0 hz1 hz2 hS hp1 hp2 hSS hN4 hO4 hF4 HF
  go_upto_region 3 with fail
  generalize ((((w.alloc (.cells (madeCells #[.int .u32 0] S) 48)).setCell ⟨g, 8, none⟩ (.slice (some ⟨w.heap.size, 0, none⟩) S S)).alloc (.cells (madeCells #[.int .u32 0] n) 48)).setCell ⟨g, 9, none⟩ (.slice (some ⟨w.heap.size + 1, 0, none⟩) 0 n)) = w5 at *
  generalize w.heap.size + 1 = qb at *
  obtain ⟨sz, hsz⟩ : ∃ sz, sz = S := ⟨_, rfl⟩
  obtain ⟨ql, hql⟩ : ∃ ql, ql = w.heap.size := ⟨_, rfl⟩
  rw [← hsz, ← hql] at HF4
  have HQL := Lib.hid (And.intro hsz hql)
  clear c7 c8 d1 d2 d3 d4 d5 hmk hmk2 hm ew ew2 k0 k1 hnil e0 ek hsz hql HSS hk
  have c9 : w5.cell? ⟨g, 9, none⟩ = some (.slice (some ⟨qb, 0, none⟩) 0 n) := HF4.out.fq.f.cell 9
  go_wp2_with fail
  clear c9
  go_loopw [4] (fun v wr => ∃ (j : Nat) (G' : Nat → Prop) (qa ca : Nat) (cs : Array Value), j ≤ e ∧ v = .int .i64 (j : Int) ∧ Fm wr g G' A n c dict b s j sz ql qa ca cs ∧ (∀ i, G' i → G i ∨ w.heap.size ≤ i) ∧ Only G w wr) (fun v _ => e - (intOf v).toNat)
  case atStart => exact ⟨0, G5, _, _, _, Nat.zero_le _, rfl, HF4.out, HN4.out, HO4.out⟩
  case round =>
    clear HF4 HN4 HO4
    obtain ⟨j, G', qa, ca, cs, hj, rfl, hf, hnw, hO⟩ := hrel
    obtain ⟨_, he, hn⟩ := HE.out
    have HNW := Lib.hid hnw
    have HO := Lib.hid hO
    have HF := Lib.hid hf
    have hs := hO.size
    by_cases hlt : j < e
    · have i1 : (j : Int) < (e : Int) := by omega
      have K := Lib.hid (plist_any (p := j) (hf.fq.f.cell 7) (hf.fq.f.cell 8) hf.fq.sl hn (by omega) hf.md.s1 hf.md.s2)
      have HLT := Lib.hid hlt
      have HHS := Lib.hid hs
      clear hj hnw hO he hn hlt hs hf
      go_wp2_with fail
      refine K.out.mono ?_
      rintro x w1 ⟨rfl, k1, rfl⟩
      have hf := HF.out.drewN k1
      have HO1 := Lib.hid (HO.out.drewN k1)
      have HS1 := Lib.hid (show w.heap.size ≤ (wr.drewN k1).heap.size from HHS.out)
      clear K HO HF HHS
      generalize wr.drewN k1 = w2 at *
      obtain ⟨i, hi, hz0, hz1, hz2⟩ := info_parts info_p32
      have hu : hashP b sz j < sz := hash_lt hf.md.s1
      have c9 : w2.cell? ⟨g, 9, none⟩ = some (.slice (some ⟨qa, 0, none⟩) j ca) := hf.fq.f.cell 9
      have cu : w2.cell? ⟨ql, hashP b sz j, none⟩ = some (.int .u32 ((lastN (hashP b sz) (hashP b sz j) j : Nat) : Int)) := hf.md.lcell hu
      have HPU := Lib.hid (fun (k : Nat) (o : Obj) (q' c' : Nat) (w3 : World) (ho : w3.ownsRow 0 48 1 (.slice (some ⟨q', 0, none⟩) (j + 1) c') (j + 1) (prevs b sz j ++ [.int .u32 ((lastN (hashP b sz) (hashP b sz j) j : Nat) : Int)])) (hg : ((w2.drewN k).alloc o).grownBy w3 (some qa)) (hq : (some qa : Option Nat) = some q' ∨ q' = ((w2.drewN k).alloc o).heap.size) =>
        hf.push (((Only.refl (fun _ => False) w2).drewN k).alloc o) ho hg (hq.imp (fun h => by injection h) id))
      have HOA := Lib.hid (fun (k : Nat) (o : Obj) => World.ownsRow.alloc (show (w2.drewN k).ownsRow 0 48 1 (.slice (some ⟨qa, 0, none⟩) j ca) j (prevs b sz j) from hf.md.ar) o)
      have HNE := Lib.hid (fun (k : Nat) (u : Value) => (sl_one (w2.drewN k) 48 u).news)
      have c9a : (w2.alloc (.cells #[.int .u32 ((lastN (hashP b sz) (hashP b sz j) j : Nat) : Int)] 48)).cell? ⟨g, 9, none⟩ = some (.slice (some ⟨qa, 0, none⟩) j ca) := (hf.fq.f.alloc _).cell 9
      have HJ := Lib.hid (show j < e ∧ e < n ∧ n ≤ 1000000000 from ⟨HLT.out, HE.out.2⟩)
      have e1 : IntKind.i64.wrap ((j : Int) + 1) = (j : Int) + 1 := IntWalk.i64_in _ (by have := HJ.out; omega)
      have e2 : IntKind.u32.wrap ((j : Int) + 1) = (j : Int) + 1 := by have := HJ.out; simp [IntKind.wrap, IntKind.bits, IntKind.signed]; omega
      obtain ⟨u, hu0⟩ : ∃ u, u = hashP b sz j := ⟨_, rfl⟩
      obtain ⟨l, hl0⟩ : ∃ l, l = lastN (hashP b sz) u j := ⟨_, rfl⟩
      rw [← hu0, ← hl0] at cu HPU c9a
      rw [← hu0]
      clear hf hu HLT hu0 hl0
      go_wp2_with fail
      go_region_law (first | (refine step_append_lies _ rfl (.tmp 50) (.tmp 54) 116 rfl 0 48 i _ 1 4 Tryz.underlying116 hi hz0 hz1 hz2 rfl (by omega) _ j (prevs b sz j) rfl (HOA.out 1 _) _ 1 1 [.int .u32 (l : Int)] rfl rfl (HNE.out 1 _) (one_one _ _) (by omega) (by have := HJ.out; unfold maxLen; omega) (by have := HJ.out; omega) (Nat.zero_le _) _ rfl ?_; intro q' c' w3 ho hg hq hql3; obtain ⟨j9, z9, hP⟩ := HPU.out 1 _ q' c' w3 ho hg hq; have HP := Lib.hid hP; clear ho hg hq hP))
      all_goals
        clear c9 cu c9a HPU HOA HNE j9 z9
        obtain ⟨t1, t2, hF3, hO3, hn3⟩ := HP.out
        clear HP
        have HF3 := Lib.hid hF3
        have HO3 := Lib.hid hO3
        have HN3 := Lib.hid hn3
        clear hF3 hO3 hn3
        unfold asV at t1 t2 HF3 HO3
        generalize w3.setCell ⟨g, 9, none⟩ (.slice (some ⟨q', 0, none⟩) (j + 1) c') = w4 at *
        go_wp2_with fail
        go_roundw
        case rel => exact ⟨j + 1, _, q', c', _, by have := HJ.out; omega, by go_num, HF3.out, nw_trans HNW.out (fun i hi => by rcases hi with hi | rfl; exact .inl hi; exact HN3.out) HS1.out, only_nw HO1.out HNW.out HO3.out⟩
        case measure => have := HJ.out; simp [intOf]; omega
    · obtain rfl : j = e := by omega
      clear hj hnw hO hs hf he hn
      go_wp2_with fail
      first | go_end0 | refine bodyPost_ret (results_none rfl _ _ _) rfl ?_
      exact ⟨rfl, G', sz, ql, qa, ca, cs, HF.out, HNW.out, HO.out⟩
end
end Go.Proofs.YtoencondpbkomaaGreat

/-
  The program's finder: the elder distances' longest copy.
-/
namespace Go.Proofs.YtoencondpbkomaaGreat
open Go.RowKit
theorem best2_take {g : Nat → Nat} {j n : Nat} (hn : n = g j) (h2 : 2 ≤ n) (hl : (best2 g j).2 < n) : best2 g (j + 1) = (j, n) := by
  subst hn
  exact if_pos ⟨h2, hl⟩
theorem best2_skip {g : Nat → Nat} {j n : Nat} (hn : n = g j) (h : ¬ (2 ≤ n ∧ (best2 g j).2 < n)) : best2 g (j + 1) = best2 g j := by
  subst hn
  exact if_neg h
section
variable {w : World} {g : Nat} {A : Option Addr} {n c dict : Nat} {b : List UInt8} {s : Ps} {lv av : Value}
set_option maxRecDepth 100000 in
set_option maxHeartbeats 8000000 in
theorem pelder_any (h : Fq w g A n c dict b s lv av) :
    Calls Tryz.prog 76 #[.pointer (some ⟨g, 0, none⟩)] w fun x w' => x = .returned (.tuple #[.int .i64 (((eld2 b dict n s).1 : Nat) : Int), .int .i64 (((eld2 b dict n s).2 : Nat) : Int)]) ∧ ∃ k, w.drewN k = w' := by
  have c3 := h.c3
  have c4 := h.c4
  have c5 := h.c5
  have c6 := h.c6
  have KC := Lib.hid (fun (k d : Nat) (hd : d < 4294967296) => pcopied_any (d := d) (h.drewN k) hd)
  have HLIT := Lib.hid h.lit
  obtain ⟨gg, hg⟩ : ∃ gg : Nat → Nat, gg = fun h => cpN b dict n s.i (s.rep h) := ⟨_, rfl⟩
  have h0 : cpN b dict n s.i s.r0 = gg 0 := by rw [hg]; rfl
  have h1 : cpN b dict n s.i s.r1 = gg 1 := by rw [hg]; rfl
  have h2 : cpN b dict n s.i s.r2 = gg 2 := by rw [hg]; rfl
  have h3 : cpN b dict n s.i s.r3 = gg 3 := by rw [hg]; rfl
  have HG := Lib.hid (And.intro h0 (And.intro h1 (And.intro h2 h3)))
  have he : eld2 b dict n s = best2 gg 4 := by rw [hg]; rfl
  rw [he]
  have HN := Lib.hid (fun j => show gg j ≤ 273 by rw [hg]; have := cpN_le b dict n s.i (s.rep j); simp only; omega)
  clear h hg h0 h1 h2 h3 he
  go_enter Tryz.func76, Tryz.ntmps76
  go_wp2_with fail
  go_loopw [4, 5, 13] (fun v4 v5 v13 wr => ∃ j k : Nat, j ≤ 4 ∧ v13 = .int .i64 (j : Int) ∧ v4 = .int .i64 (((best2 gg j).1 : Nat) : Int) ∧ v5 = .int .i64 (((best2 gg j).2 : Nat) : Int) ∧ wr = w.drewN k) (fun _ _ v _ => 4 - (intOf v).toNat)
  case atStart => exact ⟨0, 0, by omega, rfl, rfl, rfl, rfl⟩
  case round =>
    obtain ⟨j, k, hj, rfl, rfl, rfl, rfl⟩ := hrel
    have hc : j = 0 ∨ j = 1 ∨ j = 2 ∨ j = 3 ∨ j = 4 := by omega
    rcases hc with rfl | rfl | rfl | rfl | rfl
    · have K := KC.out k s.r0 HLIT.out.r0
      rw [HG.out.1] at K
      have K := Lib.hid K
      have e1 : IntKind.i64.wrap (s.r0 : Int) = (s.r0 : Int) := IntWalk.i64_in _ (by have := HLIT.out.r0; omega)
      have HB := Lib.hid (HN.out 0)
      obtain ⟨x, hx⟩ : ∃ x, x = gg 0 := ⟨_, rfl⟩
      obtain ⟨a, ha⟩ : ∃ a, a = (best2 gg 0).1 := ⟨_, rfl⟩
      obtain ⟨m, hm⟩ : ∃ m, m = (best2 gg 0).2 := ⟨_, rfl⟩
      rw [← hx] at K HB
      rw [← ha, ← hm]
      have e2 : IntKind.i64.wrap ((0 : Int) + 1) = 1 := by decide
      have hix : ∀ W : World, (Instr.index 66 (.agg #[.int .u32 (s.r0 : Int), .int .u32 (s.r1 : Int), .int .u32 (s.r2 : Int), .int .u32 (s.r3 : Int)]) (.int .i64 0)).run Tryz.prog W = .ok (.int .u32 (s.r0 : Int)) W := fun _ => by kernel_rfl
      clear hj
      by_cases g1 : 2 ≤ x
      · by_cases g2 : m < x
        · have HR := Lib.hid (best2_take hx g1 (by omega))
          have i1 : (2 : Int) ≤ (x : Int) := by omega
          have i2 : (m : Int) < (x : Int) := by omega
          clear hx ha hm g1 g2
          go_wp2_with fail
          refine K.out.mono ?_
          rintro e w1 ⟨rfl, k1, rfl⟩
          go_wp2_with fail
          go_roundw
          case rel => exact ⟨1, k + k1, by omega, by first | rfl | go_num, by rw [HR.out]; first | done | rfl, by rw [HR.out]; first | done | rfl, by first | rfl | exact World.drewN_drewN⟩
          case measure => simp [intOf]
        · have HR := Lib.hid (show (best2 gg 1).1 = a ∧ (best2 gg 1).2 = m by rw [best2_skip hx (fun h => by omega)]; exact ⟨ha.symm, hm.symm⟩)
          have i1 : (2 : Int) ≤ (x : Int) := by omega
          have i2 : ¬ (m : Int) < (x : Int) := by omega
          clear hx ha hm g1 g2
          go_wp2_with fail
          refine K.out.mono ?_
          rintro e w1 ⟨rfl, k1, rfl⟩
          go_wp2_with fail
          go_roundw
          case rel => exact ⟨1, k + k1, by omega, by first | rfl | go_num, by rw [HR.out.1], by rw [HR.out.2], by first | rfl | exact World.drewN_drewN⟩
          case measure => simp [intOf]
      · have HR := Lib.hid (show (best2 gg 1).1 = a ∧ (best2 gg 1).2 = m by rw [best2_skip hx (fun h => by omega)]; exact ⟨ha.symm, hm.symm⟩)
        have i1 : ¬ (2 : Int) ≤ (x : Int) := by omega
        clear hx ha hm g1
        go_wp2_with fail
        refine K.out.mono ?_
        rintro e w1 ⟨rfl, k1, rfl⟩
        go_wp2_with fail
        go_roundw
        case rel => exact ⟨1, k + k1, by omega, by first | rfl | go_num, by rw [HR.out.1], by rw [HR.out.2], by first | rfl | exact World.drewN_drewN⟩
        case measure => simp [intOf]
    · have K := KC.out k s.r1 HLIT.out.r1
      rw [HG.out.2.1] at K
      have K := Lib.hid K
      have e1 : IntKind.i64.wrap (s.r1 : Int) = (s.r1 : Int) := IntWalk.i64_in _ (by have := HLIT.out.r1; omega)
      have HB := Lib.hid (HN.out 1)
      obtain ⟨x, hx⟩ : ∃ x, x = gg 1 := ⟨_, rfl⟩
      obtain ⟨a, ha⟩ : ∃ a, a = (best2 gg 1).1 := ⟨_, rfl⟩
      obtain ⟨m, hm⟩ : ∃ m, m = (best2 gg 1).2 := ⟨_, rfl⟩
      rw [← hx] at K HB
      rw [← ha, ← hm]
      have e2 : IntKind.i64.wrap ((1 : Int) + 1) = 2 := by decide
      have hix : ∀ W : World, (Instr.index 66 (.agg #[.int .u32 (s.r0 : Int), .int .u32 (s.r1 : Int), .int .u32 (s.r2 : Int), .int .u32 (s.r3 : Int)]) (.int .i64 1)).run Tryz.prog W = .ok (.int .u32 (s.r1 : Int)) W := fun _ => by kernel_rfl
      clear hj
      by_cases g1 : 2 ≤ x
      · by_cases g2 : m < x
        · have HR := Lib.hid (best2_take hx g1 (by omega))
          have i1 : (2 : Int) ≤ (x : Int) := by omega
          have i2 : (m : Int) < (x : Int) := by omega
          clear hx ha hm g1 g2
          go_wp2_with fail
          refine K.out.mono ?_
          rintro e w1 ⟨rfl, k1, rfl⟩
          go_wp2_with fail
          go_roundw
          case rel => exact ⟨2, k + k1, by omega, by first | rfl | go_num, by rw [HR.out]; first | done | rfl, by rw [HR.out]; first | done | rfl, by first | rfl | exact World.drewN_drewN⟩
          case measure => simp [intOf]
        · have HR := Lib.hid (show (best2 gg 2).1 = a ∧ (best2 gg 2).2 = m by rw [best2_skip hx (fun h => by omega)]; exact ⟨ha.symm, hm.symm⟩)
          have i1 : (2 : Int) ≤ (x : Int) := by omega
          have i2 : ¬ (m : Int) < (x : Int) := by omega
          clear hx ha hm g1 g2
          go_wp2_with fail
          refine K.out.mono ?_
          rintro e w1 ⟨rfl, k1, rfl⟩
          go_wp2_with fail
          go_roundw
          case rel => exact ⟨2, k + k1, by omega, by first | rfl | go_num, by rw [HR.out.1], by rw [HR.out.2], by first | rfl | exact World.drewN_drewN⟩
          case measure => simp [intOf]
      · have HR := Lib.hid (show (best2 gg 2).1 = a ∧ (best2 gg 2).2 = m by rw [best2_skip hx (fun h => by omega)]; exact ⟨ha.symm, hm.symm⟩)
        have i1 : ¬ (2 : Int) ≤ (x : Int) := by omega
        clear hx ha hm g1
        go_wp2_with fail
        refine K.out.mono ?_
        rintro e w1 ⟨rfl, k1, rfl⟩
        go_wp2_with fail
        go_roundw
        case rel => exact ⟨2, k + k1, by omega, by first | rfl | go_num, by rw [HR.out.1], by rw [HR.out.2], by first | rfl | exact World.drewN_drewN⟩
        case measure => simp [intOf]
    · have K := KC.out k s.r2 HLIT.out.r2
      rw [HG.out.2.2.1] at K
      have K := Lib.hid K
      have e1 : IntKind.i64.wrap (s.r2 : Int) = (s.r2 : Int) := IntWalk.i64_in _ (by have := HLIT.out.r2; omega)
      have HB := Lib.hid (HN.out 2)
      obtain ⟨x, hx⟩ : ∃ x, x = gg 2 := ⟨_, rfl⟩
      obtain ⟨a, ha⟩ : ∃ a, a = (best2 gg 2).1 := ⟨_, rfl⟩
      obtain ⟨m, hm⟩ : ∃ m, m = (best2 gg 2).2 := ⟨_, rfl⟩
      rw [← hx] at K HB
      rw [← ha, ← hm]
      have e2 : IntKind.i64.wrap ((2 : Int) + 1) = 3 := by decide
      have hix : ∀ W : World, (Instr.index 66 (.agg #[.int .u32 (s.r0 : Int), .int .u32 (s.r1 : Int), .int .u32 (s.r2 : Int), .int .u32 (s.r3 : Int)]) (.int .i64 2)).run Tryz.prog W = .ok (.int .u32 (s.r2 : Int)) W := fun _ => by kernel_rfl
      clear hj
      by_cases g1 : 2 ≤ x
      · by_cases g2 : m < x
        · have HR := Lib.hid (best2_take hx g1 (by omega))
          have i1 : (2 : Int) ≤ (x : Int) := by omega
          have i2 : (m : Int) < (x : Int) := by omega
          clear hx ha hm g1 g2
          go_wp2_with fail
          refine K.out.mono ?_
          rintro e w1 ⟨rfl, k1, rfl⟩
          go_wp2_with fail
          go_roundw
          case rel => exact ⟨3, k + k1, by omega, by first | rfl | go_num, by rw [HR.out]; first | done | rfl, by rw [HR.out]; first | done | rfl, by first | rfl | exact World.drewN_drewN⟩
          case measure => simp [intOf]
        · have HR := Lib.hid (show (best2 gg 3).1 = a ∧ (best2 gg 3).2 = m by rw [best2_skip hx (fun h => by omega)]; exact ⟨ha.symm, hm.symm⟩)
          have i1 : (2 : Int) ≤ (x : Int) := by omega
          have i2 : ¬ (m : Int) < (x : Int) := by omega
          clear hx ha hm g1 g2
          go_wp2_with fail
          refine K.out.mono ?_
          rintro e w1 ⟨rfl, k1, rfl⟩
          go_wp2_with fail
          go_roundw
          case rel => exact ⟨3, k + k1, by omega, by first | rfl | go_num, by rw [HR.out.1], by rw [HR.out.2], by first | rfl | exact World.drewN_drewN⟩
          case measure => simp [intOf]
      · have HR := Lib.hid (show (best2 gg 3).1 = a ∧ (best2 gg 3).2 = m by rw [best2_skip hx (fun h => by omega)]; exact ⟨ha.symm, hm.symm⟩)
        have i1 : ¬ (2 : Int) ≤ (x : Int) := by omega
        clear hx ha hm g1
        go_wp2_with fail
        refine K.out.mono ?_
        rintro e w1 ⟨rfl, k1, rfl⟩
        go_wp2_with fail
        go_roundw
        case rel => exact ⟨3, k + k1, by omega, by first | rfl | go_num, by rw [HR.out.1], by rw [HR.out.2], by first | rfl | exact World.drewN_drewN⟩
        case measure => simp [intOf]
    · have K := KC.out k s.r3 HLIT.out.r3
      rw [HG.out.2.2.2] at K
      have K := Lib.hid K
      have e1 : IntKind.i64.wrap (s.r3 : Int) = (s.r3 : Int) := IntWalk.i64_in _ (by have := HLIT.out.r3; omega)
      have HB := Lib.hid (HN.out 3)
      obtain ⟨x, hx⟩ : ∃ x, x = gg 3 := ⟨_, rfl⟩
      obtain ⟨a, ha⟩ : ∃ a, a = (best2 gg 3).1 := ⟨_, rfl⟩
      obtain ⟨m, hm⟩ : ∃ m, m = (best2 gg 3).2 := ⟨_, rfl⟩
      rw [← hx] at K HB
      rw [← ha, ← hm]
      have e2 : IntKind.i64.wrap ((3 : Int) + 1) = 4 := by decide
      have hix : ∀ W : World, (Instr.index 66 (.agg #[.int .u32 (s.r0 : Int), .int .u32 (s.r1 : Int), .int .u32 (s.r2 : Int), .int .u32 (s.r3 : Int)]) (.int .i64 3)).run Tryz.prog W = .ok (.int .u32 (s.r3 : Int)) W := fun _ => by kernel_rfl
      clear hj
      by_cases g1 : 2 ≤ x
      · by_cases g2 : m < x
        · have HR := Lib.hid (best2_take hx g1 (by omega))
          have i1 : (2 : Int) ≤ (x : Int) := by omega
          have i2 : (m : Int) < (x : Int) := by omega
          clear hx ha hm g1 g2
          go_wp2_with fail
          refine K.out.mono ?_
          rintro e w1 ⟨rfl, k1, rfl⟩
          go_wp2_with fail
          go_roundw
          case rel => exact ⟨4, k + k1, by omega, by first | rfl | go_num, by rw [HR.out]; first | done | rfl, by rw [HR.out]; first | done | rfl, by first | rfl | exact World.drewN_drewN⟩
          case measure => simp [intOf]
        · have HR := Lib.hid (show (best2 gg 4).1 = a ∧ (best2 gg 4).2 = m by rw [best2_skip hx (fun h => by omega)]; exact ⟨ha.symm, hm.symm⟩)
          have i1 : (2 : Int) ≤ (x : Int) := by omega
          have i2 : ¬ (m : Int) < (x : Int) := by omega
          clear hx ha hm g1 g2
          go_wp2_with fail
          refine K.out.mono ?_
          rintro e w1 ⟨rfl, k1, rfl⟩
          go_wp2_with fail
          go_roundw
          case rel => exact ⟨4, k + k1, by omega, by first | rfl | go_num, by rw [HR.out.1], by rw [HR.out.2], by first | rfl | exact World.drewN_drewN⟩
          case measure => simp [intOf]
      · have HR := Lib.hid (show (best2 gg 4).1 = a ∧ (best2 gg 4).2 = m by rw [best2_skip hx (fun h => by omega)]; exact ⟨ha.symm, hm.symm⟩)
        have i1 : ¬ (2 : Int) ≤ (x : Int) := by omega
        clear hx ha hm g1
        go_wp2_with fail
        refine K.out.mono ?_
        rintro e w1 ⟨rfl, k1, rfl⟩
        go_wp2_with fail
        go_roundw
        case rel => exact ⟨4, k + k1, by omega, by first | rfl | go_num, by rw [HR.out.1], by rw [HR.out.2], by first | rfl | exact World.drewN_drewN⟩
        case measure => simp [intOf]
    · clear KC HG HN HLIT hj
      go_wp2_with fail
      go_ret2
      exact ⟨rfl, k, rfl⟩
end
end Go.Proofs.YtoencondpbkomaaGreat

/-
  The program's finder: the longest copy by the lists of places.
-/
namespace Go.Proofs.YtoencondpbkomaaGreat
open Go.RowKit

/-- the finder, its lists made or not -/
def Fd (w : World) (g : Nat) (G : Nat → Prop) (A : Option Addr) (n c dict : Nat) (b : List UInt8) (s : Ps) (cnt : Nat) : Prop :=
  (Fu w g G A n c dict b s ∧ cnt = 0) ∨ ∃ (sz ql qa ca : Nat) (cs : Array Value), Fm w g G A n c dict b s cnt sz ql qa ca cs
def FdPost (w : World) (g : Nat) (G : Nat → Prop) (A : Option Addr) (n c dict : Nat) (b : List UInt8) (s : Ps) (w' : World) : Prop :=
  ∃ (G' : Nat → Prop) (cnt : Nat), Fd w' g G' A n c dict b s cnt ∧ cnt ≤ s.i ∧ (∀ i, G' i → G i ∨ w.heap.size ≤ i) ∧ Only G w w'
def LonPost (w : World) (g : Nat) (G : Nat → Prop) (A : Option Addr) (n c dict : Nat) (b : List UInt8) (s : Ps) (r : Nat × Nat) (x : Ending) (w' : World) : Prop :=
  x = .returned (.tuple #[.int .i64 (r.1 : Int), .int .i64 (r.2 : Int)]) ∧ FdPost w g G A n c dict b s w'
section
variable {w : World} {g : Nat} {G : Nat → Prop} {A : Option Addr} {n c dict : Nat} {b : List UInt8} {s : Ps} {cnt : Nat}
theorem Fu.drewN (h : Fu w g G A n c dict b s) (k : Nat) : Fu (w.drewN k) g G A n c dict b s := ⟨h.fq.drewN k, h.gg, h.lt, h.ap⟩
theorem Fd.drewN (h : Fd w g G A n c dict b s cnt) (k : Nat) : Fd (w.drewN k) g G A n c dict b s cnt := by
  rcases h with ⟨h, hc⟩ | ⟨sz, ql, qa, ca, cs, h⟩
  · exact .inl ⟨h.drewN k, hc⟩
  · exact .inr ⟨sz, ql, qa, ca, cs, h.drewN k⟩
theorem Fd.fq (h : Fd w g G A n c dict b s cnt) : ∃ lv av, Fq w g A n c dict b s lv av := by
  rcases h with ⟨h, _⟩ | ⟨sz, ql, qa, ca, cs, h⟩
  · exact ⟨_, _, h.fq⟩
  · exact ⟨_, _, h.fq⟩
theorem Fd.lt (h : Fd w g G A n c dict b s cnt) : ∀ i, G i → i < w.heap.size := by
  rcases h with ⟨h, _⟩ | ⟨sz, ql, qa, ca, cs, h⟩
  · exact h.lt
  · exact h.lt
theorem Fd.same (h : Fd w g G A n c dict b s cnt) (hc : cnt ≤ s.i) (k : Nat) : FdPost w g G A n c dict b s (w.drewN k) :=
  ⟨G, cnt, h.drewN k, hc, fun i hi => .inl hi, (Only.refl _ w).drewN k⟩
theorem padd_any {e : Nat} (h : Fd w g G A n c dict b s cnt) (hc : cnt ≤ e) (he : e < n) :
    Calls Tryz.prog 105 #[.pointer (some ⟨g, 7, none⟩), .int .i64 (e : Int)] w (AddPost w g G A n c dict b s e) := by
  rcases h with ⟨h, _⟩ | ⟨sz, ql, qa, ca, cs, h⟩
  · exact padd_new h he
  · exact padd_made h hc he
end

/-! ### the loop's numbers -/
section
variable {b : List UInt8} {dict n at_ l m sz : Nat} {x : Nat × Nat}
/-- what is known when the places from m on were looked at -/
structure Lon (b : List UInt8) (dict n at_ l sz m : Nat) (x : Nat × Nat) : Prop where
  is : wor (fun d => cpN b dict n at_ d) l (at_ - m) = x
  m1 : m ≤ at_
  m2 : at_ - m ≤ dict
theorem Lon.start (b : List UInt8) (dict n at_ l sz : Nat) : Lon b dict n at_ l sz at_ (0, 0) := ⟨by rw [Nat.sub_self]; exact wor_zero _ _, Nat.le_refl _, by omega⟩
theorem Lon.or (h : Lon b dict n at_ l sz m x) : x = (0, 0) ∨ l ≤ x.2 := by rw [← h.is]; exact wor_or _ _ _
theorem Lon.ge (h : Lon b dict n at_ l sz m x) (h2 : 2 ≤ l) : 2 ≤ leastOf l x := least_ge h2 (h.or.imp (fun e => by rw [e]) id)
theorem Lon.le (h : Lon b dict n at_ l sz m x) (hl : l ≤ 1000) : leastOf l x ≤ 1000 := by
  have : x.2 ≤ 273 := by
    rw [← h.is]
    unfold wor
    split
    · by_cases h0 : 0 < (best (fun d => cpN b dict n at_ d) (at_ - m)).2
      · have := (best_is _ _ h0).2.1
        rw [← this]
        have := cpN_le b dict n at_ (best (fun d => cpN b dict n at_ d) (at_ - m)).1
        omega
      · omega
    · exact Nat.zero_le _
  unfold leastOf
  split <;> omega
/-- distances of places of another list aren't worth it -/
theorem Lon.other (h2 : 2 ≤ l) (h : Lon b dict n at_ l sz m x) {d : Nat} (hd : d < at_) (hh : hashP b sz (at_ - 1 - d) ≠ hashP b sz at_) : cpN b dict n at_ d < leastOf l x := by
  have hg := h.ge h2
  by_cases hc : 2 ≤ cpN b dict n at_ d
  · obtain ⟨_, _, e0, e1⟩ := cp_short hc
    exact absurd (hash_same e0 e1).symm hh
  · omega
theorem Lon.end_most (h : Lon b dict n at_ l sz m x) (h2 : 2 ≤ l) (hm : ¬ leastOf l x ≤ min 273 (n - at_)) : wor (fun d => cpN b dict n at_ d) l (min at_ dict) = x := by
  have := h.m1
  have := h.m2
  rw [wor_to (n := at_ - m) (by omega) (by omega) (fun d _ _ => by rw [h.is]; have := cpN_le b dict n at_ d; omega)]
  exact h.is
theorem Lon.end_none (h : Lon b dict n at_ l sz m x) (h2 : 2 ≤ l) (hp : (lastN (hashP b sz) (hashP b sz at_) m : Int) - 1 < max ((at_ : Int) - (dict : Int)) 0) : wor (fun d => cpN b dict n at_ d) l (min at_ dict) = x := by
  have h1 := h.m1
  have h3 := h.m2
  rw [wor_to (n := at_ - m) (by omega) (by omega) (fun d hd1 hd2 => by
    rw [h.is]
    refine h.other h2 (by omega) ?_
    cases hq : lastN (hashP b sz) (hashP b sz at_) m with
    | zero => exact lastN_none hq _ (by omega)
    | succ q =>
      obtain ⟨_, _, h5⟩ := lastN_some hq
      rw [hq] at hp
      exact h5 _ (by omega) (by omega))]
  exact h.is
/-- up to the place that is looked at -/
theorem Lon.upto (h : Lon b dict n at_ l sz m x) (h2 : 2 ≤ l) {q : Nat} (hq : lastN (hashP b sz) (hashP b sz at_) m = q + 1) : wor (fun d => cpN b dict n at_ d) l (at_ - 1 - q) = x := by
  have h1 := h.m1
  obtain ⟨h3, _, h5⟩ := lastN_some hq
  rw [wor_to (n := at_ - m) (by omega) (by omega) (fun d hd1 hd2 => by rw [h.is]; exact h.other h2 (by omega) (h5 _ (by omega) (by omega)))]
  exact h.is
theorem Lon.skip (h : Lon b dict n at_ l sz m x) (h2 : 2 ≤ l) {q : Nat} (hq : lastN (hashP b sz) (hashP b sz at_) m = q + 1) (ho : max ((at_ : Int) - (dict : Int)) 0 ≤ (q : Int)) (hg : cpN b dict n at_ (at_ - 1 - q) < leastOf l x) : Lon b dict n at_ l sz q x := by
  have h1 := h.m1
  obtain ⟨h3, _, _⟩ := lastN_some hq
  refine ⟨?_, by omega, by omega⟩
  have := wor_skip (g := fun d => cpN b dict n at_ d) (l0 := l) (n := at_ - 1 - q) (by omega) (by rw [h.upto h2 hq]; exact hg)
  rw [h.upto h2 hq] at this
  rwa [show at_ - 1 - q + 1 = at_ - q by omega] at this
theorem Lon.take (h : Lon b dict n at_ l sz m x) (h2 : 2 ≤ l) {q : Nat} (hq : lastN (hashP b sz) (hashP b sz at_) m = q + 1) (ho : max ((at_ : Int) - (dict : Int)) 0 ≤ (q : Int)) (hg : leastOf l x ≤ cpN b dict n at_ (at_ - 1 - q)) : Lon b dict n at_ l sz q (at_ - 1 - q, cpN b dict n at_ (at_ - 1 - q)) := by
  have h1 := h.m1
  obtain ⟨h3, _, _⟩ := lastN_some hq
  refine ⟨?_, by omega, by omega⟩
  have := wor_take (g := fun d => cpN b dict n at_ d) (l0 := l) (n := at_ - 1 - q) (by omega) (by rw [h.upto h2 hq]; exact hg)
  rwa [show at_ - 1 - q + 1 = at_ - q by omega] at this
end
end Go.Proofs.YtoencondpbkomaaGreat

/-
  The program's finder: the longest copy by the lists of places: the walk.
-/
namespace Go.Proofs.YtoencondpbkomaaGreat
open Go.RowKit
section
variable {w : World} {g : Nat} {G : Nat → Prop} {A : Option Addr} {n c dict : Nat} {b : List UInt8} {s : Ps} {cnt : Nat}
set_option maxRecDepth 100000 in
set_option maxHeartbeats 16000000 in
theorem plongest_any {l : Nat} (h : Fd w g G A n c dict b s cnt) (hc : cnt ≤ s.i) (h2 : 2 ≤ l) (hl : l ≤ 1000) :
    Calls Tryz.prog 77 #[.pointer (some ⟨g, 0, none⟩), .int .i64 (l : Int)] w (LonPost w g G A n c dict b s (worth b dict n s l)) := by
  obtain ⟨lv0, av0, hq0⟩ := h.fq
  have KM := Lib.hid (pmost_any hq0)
  have hi1 := hq0.i1
  have hn1 := hq0.n1
  have hd1 := hq0.d1
  have hd2 := hq0.d2
  obtain ⟨mo, hmo⟩ : ∃ mo, mo = min 273 (n - s.i) := ⟨_, rfl⟩
  rw [← hmo] at KM
  have HD := Lib.hid h
  have HB := Lib.hid (show n ≤ 1000000000 ∧ s.i ≤ n ∧ 1 ≤ dict ∧ dict ≤ 9223372036854775807 ∧ 2 ≤ l ∧ l ≤ 1000 ∧ cnt ≤ s.i ∧ mo = min 273 (n - s.i) from ⟨hn1, hi1, hd1, hd2, h2, hl, hc, hmo⟩)
  by_cases hlm : l ≤ mo
  · have g1 : ¬ (l : Int) > (mo : Int) := by omega
    have KA := Lib.hid (fun k => padd_any (e := s.i) (h.drewN k) hc (by omega))
    have hw : worth b dict n s l = wor (fun d => cpN b dict n s.i d) l (min s.i dict) := rfl
    rw [hw]
    have HLM := Lib.hid hlm
    have c1 := hq0.c1
    clear h hq0 hi1 hn1 hd1 hd2 hc h2 hl hmo hlm hw
    go_enter Tryz.func77, Tryz.ntmps77
    go_wp2_with fail
    refine KM.out.mono ?_
    rintro x w1 ⟨rfl, k1, rfl⟩
    have c1 : (w.drewN k1).cell? ⟨g, 1, none⟩ = some (.int .i64 (s.i : Int)) := c1
    have KA1 := Lib.hid (show Calls Tryz.prog 105 #[.pointer (some ⟨g, 7, none⟩), .int .i64 (s.i : Int)] (w.drewN k1).drew (AddPost (w.drewN k1).drew g G A n c dict b s s.i) from KA.out (k1 + 1))
    have HS1 := Lib.hid (show w.heap.size ≤ (w.drewN k1).heap.size from Nat.le_refl _)
    have HOA := Lib.hid ((Only.refl G w).drewN k1)
    clear KM KA
    generalize w.drewN k1 = w1 at *
    go_wp2_with fail
    go_region_held3 (fun W => W.cell? ⟨g, 1, none⟩ = some (.int .i64 (s.i : Int))) (first | assumption | exact c1) (first | (go_at_call 105; refine (KA1.out).mono ?_; rintro x w2 ⟨rfl, G2, sz, ql, qa, ca, cs, hF, hN, hO⟩; have HF := Lib.hid hF; have HN2 := Lib.hid hN; have HO2 := Lib.hid hO; have r2 := hF.fq.c1; clear hF hN hO))
    have HOW := Lib.hid (HOA.out.trans ((Only.refl G w1).drew.trans HO2.out))
    have HNW := Lib.hid (fun (i : Nat) (hi : G2 i) => show G i ∨ w.heap.size ≤ i from (HN2.out i hi).imp id (fun h => Nat.le_trans HS1.out h))
    clear KA1 HOA HN2 HO2 HS1 c1 r2
    obtain ⟨O, hO⟩ : ∃ O : Int, O = max ((s.i : Int) - (dict : Int)) 0 := ⟨_, rfl⟩
    have hm := max2_int (P := Tryz.prog) #[3, 3] 3 ((s.i : Int) - (dict : Int)) 0 O hO
    have e1 : IntKind.i64.wrap ((s.i : Int) - (dict : Int)) = (s.i : Int) - (dict : Int) := IntWalk.i64_in _ (by have := HB.out; omega)
    have c1 := HF.out.fq.c1
    have c2 := HF.out.fq.c2
    have HOO := Lib.hid hO
    clear hO
    go_wp2_with fail
    go_quiet (fail)
    have hf := HF.out.drewN nq
    have HOW3 := Lib.hid (HOW.out.drewN nq)
    clear HF HOW c1 c2 e1 hm
    generalize w2.drewN nq = w3 at *
    have c1 := hf.fq.c1
    have KL := Lib.hid (fun k => plast_any (p := s.i) (hf.drewN k |>.fq.f.cell 7) (hf.drewN k |>.fq.f.cell 8) (hf.drewN k).fq.sl HB.out.1 (by have := HB.out; have := HLM.out; omega) (by have := HB.out; omega) (hf.drewN k).md)
    have HF := Lib.hid hf
    obtain ⟨L0, hL0⟩ : ∃ L0, L0 = lastN (hashP b sz) (hashP b sz s.i) s.i := ⟨_, rfl⟩
    rw [← hL0] at KL
    have HL0 := Lib.hid hL0
    clear hf hL0
    go_wp2_with fail
    go_quiet ((go_at_call 106; exact quiet_drew_at (KL.out _)))
    have hf := HF.out.drewN nq
    have HOW := Lib.hid (HOW3.out.drewN nq)
    clear HF HOW3 c1 KL
    generalize w3.drewN nq = w4 at *
    have HF := Lib.hid hf
    obtain ⟨gg, hgg⟩ : ∃ gg : Nat → Nat, gg = fun d => cpN b dict n s.i d := ⟨_, rfl⟩
    clear hf
    go_wp2_with fail
    go_loopw [1, 7, 8, 10] (fun v1 v7 v8 v10 wr => ∃ (m k : Nat) (x : Nat × Nat), Lon b dict n s.i l sz m x ∧ v10 = .int .i64 ((lastN (hashP b sz) (hashP b sz s.i) m : Nat) - 1 : Int) ∧ v7 = .int .i64 (x.1 : Int) ∧ v8 = .int .i64 (x.2 : Int) ∧ v1 = .int .i64 (leastOf l x : Int) ∧ wr = w4.drewN k) (fun _ _ _ v10 _ => (intOf v10 + 1).toNat)
    case atStart => exact ⟨s.i, 0, (0, 0), Lon.start _ _ _ _ _ _, by rw [HL0.out], rfl, rfl, rfl, rfl⟩
    case round =>
      obtain ⟨m, k, x, hlon, rfl, rfl, rfl, rfl, rfl⟩ := hrel
      obtain ⟨hn, hi, hd1, hd2, h2, hl1, hcnt, hmo⟩ := HB.out
      have hle2 := hlon.ge h2
      have hle3 := hlon.le hl1
      have hml := lastN_le (hashP b sz) (hashP b sz s.i) m
      have hmm := hlon.m1
      obtain ⟨pl, hpl⟩ : ∃ pl, pl = lastN (hashP b sz) (hashP b sz s.i) m := ⟨_, rfl⟩
      obtain ⟨le, hle⟩ : ∃ le, le = leastOf l x := ⟨_, rfl⟩
      rw [← hpl, ← hle]
      rw [← hpl] at hml
      rw [← hle] at hle2 hle3
      by_cases hpo : O ≤ (pl : Int) - 1
      · have i0 : O ≤ (pl : Int) - 1 := hpo
        by_cases hlm : le ≤ mo
        · have i1 : (le : Int) ≤ (mo : Int) := by omega
          obtain ⟨q, rfl⟩ : ∃ q, pl = q + 1 := ⟨pl - 1, by have := HOO.out; omega⟩
          have eq : (((q + 1 : Nat) : Int) - 1) = (q : Int) := by omega
          rw [eq] at i0 ⊢
          have hqm : q < s.i := by omega
          obtain ⟨ba, oa, rfl, hba, hca⟩ := HF.out.fq.sl.2 (by omega)
          have hbl := HF.out.fq.len
          obtain ⟨p1, hp1⟩ : ∃ p1, p1 = q + le - 1 := ⟨_, rfl⟩
          obtain ⟨p2, hp2⟩ : ∃ p2, p2 = s.i + le - 1 := ⟨_, rfl⟩
          have k1' : w4.cell? ⟨ba, oa + p1, none⟩ = some (.int .u8 ((b.getD p1 0).toNat : Int)) := by rw [hca p1 (by omega), bv_get b _ (by omega)]
          have k2' : w4.cell? ⟨ba, oa + p2, none⟩ = some (.int .u8 ((b.getD p2 0).toNat : Int)) := by rw [hca p2 (by omega), bv_get b _ (by omega)]
          have c0 := HF.out.fq.c0
          have c1 := HF.out.fq.c1
          have e1 : IntKind.i64.wrap ((q : Int) + (le : Int)) = (q : Int) + (le : Int) := IntWalk.i64_in _ (by omega)
          have e2 : IntKind.i64.wrap ((q : Int) + (le : Int) - 1) = (p1 : Int) := by rw [IntWalk.i64_in _ (by omega)]; omega
          have e3 : IntKind.i64.wrap ((s.i : Int) + (le : Int)) = (s.i : Int) + (le : Int) := IntWalk.i64_in _ (by omega)
          have e4 : IntKind.i64.wrap ((s.i : Int) + (le : Int) - 1) = (p2 : Int) := by rw [IntWalk.i64_in _ (by omega)]; omega
          have b1 : (0 : Int) ≤ (p1 : Int) := by omega
          have b2 : (p1 : Int) < (n : Int) := by omega
          have b3 : (0 : Int) ≤ (p2 : Int) := by omega
          have b4 : (p2 : Int) < (n : Int) := by omega
          have ho : max ((s.i : Int) - (dict : Int)) 0 ≤ (q : Int) := by rw [← HOO.out]; exact i0
          have hhq := (lastN_some hpl.symm).2.1
          have KH := Lib.hid (fun kk => pahead_any (p := q) ((HF.out.drewN kk).fq.f.cell 9) hqm (by omega) (HF.out.drewN kk).md)
          rw [hhq] at KH
          have HHQ := Lib.hid hhq
          obtain ⟨d, hd⟩ : ∃ d, d = s.i - 1 - q := ⟨_, rfl⟩
          have KC := Lib.hid (fun kk => pcopied_any (d := d) (HF.out.drewN kk).fq (by omega))
          obtain ⟨cp, hcp⟩ : ∃ cp, cp = cpN b dict n s.i d := ⟨_, rfl⟩
          rw [← hcp] at KC
          have hcp2 : cp ≤ 273 := by rw [hcp]; have := cpN_le b dict n s.i d; omega
          obtain ⟨ln, hln⟩ : ∃ ln, ln = lastN (hashP b sz) (hashP b sz s.i) q := ⟨_, rfl⟩
          rw [← hln] at KH
          have hlq : ln ≤ q := by rw [hln]; exact lastN_le _ _ _
          have HNU := Lib.hid (And.intro hln hlq)
          have HSK := Lib.hid (fun (hg : cp < le) => hlon.skip h2 hpl.symm ho (by rw [← hd, ← hcp, ← hle]; exact hg))
          have HTK := Lib.hid (fun (hg : le ≤ cp) => show Lon b dict n s.i l sz q (d, cp) by
            have := hlon.take h2 hpl.symm ho (by rw [← hd, ← hcp, ← hle]; exact hg)
            rwa [← hd, ← hcp] at this)
          have HCL := Lib.hid (fun (hg : le ≤ cp) => show b.getD p2 0 = b.getD p1 0 by
            have := cp_last (b := b) (dict := dict) (e := n) (i := s.i) (d := d) (l := le) (by omega) (by rw [← hcp]; exact hg)
            rw [hp1, hp2, this]
            exact congrArg (fun z => b.getD z 0) (by omega))
          have HLE := Lib.hid hle
          by_cases hxy : b.getD p1 0 = b.getD p2 0
          · rw [← hxy] at k2'
            have d1 : IntKind.i64.wrap ((s.i : Int) - 1) = (s.i : Int) - 1 := IntWalk.i64_in _ (by omega)
            have d2 : IntKind.i64.wrap ((s.i : Int) - 1 - (q : Int)) = (d : Int) := by rw [IntWalk.i64_in _ (by omega)]; omega
            have d3 : IntKind.i64.wrap ((cp : Int) + 1) = (cp : Int) + 1 := IntWalk.i64_in _ (by omega)
            generalize b.getD p1 0 = y at *
            by_cases htk : le ≤ cp
            · have i3 : (le : Int) ≤ (cp : Int) := by omega
              have HL2 := Lib.hid (HTK.out htk)
              have hz : ¬ cp = 0 := by omega
              have HZ := Lib.hid hz
              clear hlon hpl hle hpo hlm hqm hca hbl hp1 hp2 ho hhq hd hcp hcp2 hln hlq hxy htk hz hn hi hd1 hd2 h2 hl1 hcnt hmo hle2 hle3 hml hmm HSK HTK HCL
              go_wp2_with fail
              go_quiet (fail)
              have c1' : ((w4.drewN k).drewN nq).cell? ⟨g, 1, none⟩ = some (.int .i64 (s.i : Int)) := c1
              obtain ⟨k2, hk2⟩ : ∃ k2, (w4.drewN k).drewN nq = w4.drewN k2 := ⟨k + nq, World.drewN_drewN _ _ _⟩
              rw [hk2] at c1' ⊢
              go_wp2_with fail
              refine (KC.out k2).mono ?_
              rintro z w5 ⟨rfl, k5, rfl⟩
              obtain ⟨k6, hk6⟩ : ∃ k6, (w4.drewN k2).drewN k5 = w4.drewN k6 := ⟨k2 + k5, World.drewN_drewN _ _ _⟩
              rw [hk6]
              go_wp2_with fail
              refine (KH.out k6).mono ?_
              rintro z w6 ⟨rfl, rfl⟩
              go_wp2_with fail
              go_roundw
              case rel => exact ⟨q, k6, (d, cp), HL2.out, by rw [HNU.out.1], rfl, rfl, by unfold leastOf; rw [if_neg HZ.out]; first | rfl | go_num, rfl⟩
              case measure => have := HNU.out.2; simp [intOf]; omega
            · have i3 : ¬ (le : Int) ≤ (cp : Int) := by omega
              have HL2 := Lib.hid (HSK.out (by omega))
              clear hlon hpl hle hpo hlm hqm hca hbl hp1 hp2 ho hhq hd hcp hcp2 hln hlq hxy htk hn hi hd1 hd2 h2 hl1 hcnt hmo hle2 hle3 hml hmm HSK HTK HCL d3
              go_wp2_with fail
              go_quiet (fail)
              have c1' : ((w4.drewN k).drewN nq).cell? ⟨g, 1, none⟩ = some (.int .i64 (s.i : Int)) := c1
              obtain ⟨k2, hk2⟩ : ∃ k2, (w4.drewN k).drewN nq = w4.drewN k2 := ⟨k + nq, World.drewN_drewN _ _ _⟩
              rw [hk2] at c1' ⊢
              go_wp2_with fail
              refine (KC.out k2).mono ?_
              rintro z w5 ⟨rfl, k5, rfl⟩
              obtain ⟨k6, hk6⟩ : ∃ k6, (w4.drewN k2).drewN k5 = w4.drewN k6 := ⟨k2 + k5, World.drewN_drewN _ _ _⟩
              rw [hk6]
              go_wp2_with fail
              refine (KH.out k6).mono ?_
              rintro z w6 ⟨rfl, rfl⟩
              go_wp2_with fail
              go_roundw
              case rel => exact ⟨q, k6, x, HL2.out, by rw [HNU.out.1], rfl, rfl, by rw [HLE.out], rfl⟩
              case measure => have := HNU.out.2; simp [intOf]; omega
          · have hne := u8_ne hxy
            have HL2 := Lib.hid (HSK.out (by
              by_cases hg : le ≤ cp
              · exact absurd (HCL.out hg).symm hxy
              · omega))
            generalize b.getD p1 0 = y at *
            generalize b.getD p2 0 = z at *
            have hne2 : ((y.toNat : Int) != (z.toNat : Int)) = true := by simp only [bne, hne]; rfl
            clear hlon hpl hle hpo hlm hqm hca hbl hp1 hp2 ho hhq hd hcp hcp2 hln hlq hxy hn hi hd1 hd2 h2 hl1 hcnt hmo hle2 hle3 hml hmm HSK HTK HCL KC
            go_wp2_with fail
            go_quiet (fail)
            obtain ⟨k2, hk2⟩ : ∃ k2, (w4.drewN k).drewN nq = w4.drewN k2 := ⟨k + nq, World.drewN_drewN _ _ _⟩
            rw [hk2]
            go_wp2_with fail
            refine (KH.out k2).mono ?_
            rintro z w6 ⟨rfl, rfl⟩
            go_wp2_with fail
            go_roundw
            case rel => exact ⟨q, k2, x, HL2.out, by rw [HNU.out.1], rfl, rfl, by rw [HLE.out], rfl⟩
            case measure => have := HNU.out.2; simp [intOf]; omega
        · have i1 : ¬ (le : Int) ≤ (mo : Int) := by omega
          have HR := Lib.hid (hlon.end_most h2 (by rw [← hle, ← hmo]; exact hlm))
          clear hlon hpl hle hpo hlm hn hi hd1 hd2 h2 hl1 hcnt hmo hle2 hle3 hml hmm
          go_wp2_with fail
          go_ret2
          exact ⟨by rw [HR.out]; rfl, G2, s.i, .inr ⟨sz, ql, qa, ca, cs, HF.out.drewN k⟩, Nat.le_refl _, HNW.out, HOW.out.drewN k⟩
      · have i0 : ¬ O ≤ (pl : Int) - 1 := hpo
        have HR := Lib.hid (hlon.end_none h2 (by rw [← hpl]; have := HOO.out; omega))
        clear hlon hpl hle hpo hn hi hd1 hd2 h2 hl1 hcnt hmo hle2 hle3 hml hmm
        go_wp2_with fail
        go_ret2
        exact ⟨by rw [HR.out]; rfl, G2, s.i, .inr ⟨sz, ql, qa, ca, cs, HF.out.drewN k⟩, Nat.le_refl _, HNW.out, HOW.out.drewN k⟩
  · have g1 : (l : Int) > (mo : Int) := by omega
    have hw : worth b dict n s l = (0, 0) := by
      have := lon_le (b := b) (dict := dict) (e := n) (s := s)
      unfold worth
      rw [if_neg (by omega)]
    rw [hw]
    clear h hq0 hi1 hn1 hd1 hd2 hc h2 hl hmo hlm hw
    go_enter Tryz.func77, Tryz.ntmps77
    go_wp2_with fail
    refine KM.out.mono ?_
    rintro x w1 ⟨rfl, k1, rfl⟩
    clear KM
    go_wp2_with fail
    go_ret2
    exact ⟨rfl, HD.out.same (by have := HB.out; omega) k1⟩
end
end Go.Proofs.YtoencondpbkomaaGreat
