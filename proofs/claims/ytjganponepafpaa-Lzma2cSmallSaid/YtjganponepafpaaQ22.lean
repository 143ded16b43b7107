/-
  PsAddN, PsEld, PsLgst: put together.
-/
import Derived.Test.YtjganponepafpaaQ21
import Derived.Deep.RegionHeld3
set_option linter.unusedVariables false
set_option linter.unusedSimpArgs false
/-
  The program's lists of places: they are made, and places come into them.
-/
namespace Go.Proofs.Ytjganponepafpaa
open Go.RowKit

/-- the finder whose lists aren't made -/
structure Fu (w : World) (g : Nat) (G : Nat → Prop) (A : Option Addr) (n c dict : Nat) (b : List UInt8) (s : Ps) : Prop where
  fq : Fq w g A n c dict b s (.slice none 0 0) (.slice none 0 0)
  gg : G g
  lt : ∀ i, G i → i < w.heap.size
  ap : 0 < n → ∀ q o, A = some ⟨q, o, none⟩ → ¬ G q
theorem made_get (k v : Nat) (h : v < k) : (madeCells #[.int .u32 0] k)[v]? = some (.int .u32 0) := by
  unfold madeCells
  simp [h, Nat.mod_one]
theorem made_size (k : Nat) : (madeCells #[.int .u32 0] k).size = k := by rw [size_madeCells]
section
variable {w : World} {g : Nat} {G : Nat → Prop} {A : Option Addr} {n c dict : Nat} {b : List UInt8} {s : Ps}
/-- the lists are made -/
theorem Fu.made (h : Fu w g G A n c dict b s) {w0 : World} (hw0 : Only (fun _ => False) w w0) {S : Nat} (h1 : 1 ≤ S) (h2 : S ≤ 65536) {q2 : Nat} {w1 w2 w3 w4 : World} (e1 : w1 = w0.alloc (.cells (madeCells #[.int .u32 0] S) 23)) (e2 : w2 = w1.setCell ⟨g, 8, none⟩ (lsV w0.heap.size S))
    (e3 : w3 = w2.alloc (.cells (madeCells #[.int .u32 0] n) 23)) (e4 : w4 = w3.setCell ⟨g, 9, none⟩ (asV q2 0 n)) (hq2 : q2 = w0.heap.size + 1) :
    w1.cell? ⟨g, 8, none⟩ = some (.slice none 0 0) ∧ w1.frozen? ⟨g, 8, none⟩ = false ∧ w2.cell? ⟨g, 7, none⟩ = some (.slice A n c) ∧ w3.cell? ⟨g, 9, none⟩ = some (.slice none 0 0) ∧ w3.frozen? ⟨g, 9, none⟩ = false ∧
    ∃ G', Fm w4 g G' A n c dict b s 0 S w0.heap.size q2 n (madeCells #[.int .u32 0] S) ∧ (∀ i, G' i → G i ∨ w.heap.size ≤ i) ∧ Only G w w4 := by
  have hg0 := h.lt g h.gg
  have hs0 := hw0.size
  have hz1 : w1.heap.size = w0.heap.size + 1 := by rw [e1]; simp
  have hz2 : w2.heap.size = w0.heap.size + 1 := by rw [e2]; simpa using hz1
  have hq2' : w2.heap.size = q2 := by omega
  have hz3 : w3.heap.size = w0.heap.size + 2 := by rw [e3]; simp [hz2]
  have hz4 : w4.heap.size = w0.heap.size + 2 := by rw [e4]; simpa using hz3
  have hB0 := h.fq.f.only hw0 (fun h => h)
  have hB1 := hB0.alloc (.cells (madeCells #[.int .u32 0] S) 23)
  rw [← e1] at hB1
  have hL1 := Blk.fresh w0 23 (madeCells #[.int .u32 0] S)
  rw [← e1] at hL1
  have hB2 := hB1.put 8 (lsV w0.heap.size S)
  rw [← e2] at hB2
  have hL2 := hL1.far (p := ⟨g, 8, none⟩) (by show w0.heap.size ≠ g; omega) (lsV w0.heap.size S)
  rw [← e2] at hL2
  have hB3 := hB2.alloc (.cells (madeCells #[.int .u32 0] n) 23)
  rw [← e3] at hB3
  have hL3 := hL2.alloc (.cells (madeCells #[.int .u32 0] n) 23)
  rw [← e3] at hL3
  have hA3 := Blk.fresh w2 23 (madeCells #[.int .u32 0] n)
  rw [← e3, hq2'] at hA3
  have hB4 := hB3.put 9 (asV q2 0 n)
  rw [← e4] at hB4
  have hL4 := hL3.far (p := ⟨g, 9, none⟩) (by show w0.heap.size ≠ g; omega) (asV q2 0 n)
  rw [← e4] at hL4
  have hA4 := hA3.far (p := ⟨g, 9, none⟩) (by show q2 ≠ g; omega) (asV q2 0 n)
  rw [← e4] at hA4
  have hO : Only G w w4 := by
    rw [e4, e3, e2, e1]
    exact ((((hw0.mono (fun _ h => h.elim)).alloc _).setCell (p := ⟨g, 8, none⟩) (.inl h.gg) _).alloc _).setCell (p := ⟨g, 9, none⟩) (.inl h.gg) _
  have hn := h.fq.n1
  refine ⟨hB1.cell 8, hB1.free 8, hB2.cell 7, hB3.cell 9, hB3.free 9, fun i => G i ∨ i = w0.heap.size ∨ i = q2, ⟨⟨hB4, h.fq.sl.only hO h.ap, h.fq.n1, h.fq.i1, h.fq.d1, h.fq.d2, h.fq.lit⟩, ⟨hL4, made_size S, fun v hv => made_get S v hv, ?_, h1, h2, by omega⟩, .inl h.gg, .inr (.inl rfl), .inr (.inr rfl), ?_, ?_, by omega, by omega⟩, ?_, hO⟩
  · exact ⟨rfl, .inr ⟨q2, n, _, rfl, Nat.zero_le _, hA4, Nat.zero_le _, by unfold maxLen; omega, by rw [made_size]; simp, rfl⟩⟩
  · rintro i (hi | rfl | rfl)
    · have := h.lt i hi
      omega
    · omega
    · omega
  · rintro hn0 q o e (hi | hi | hi)
    · exact h.ap hn0 q o e hi
    · obtain ⟨b', o', e', hlt, _⟩ := h.fq.sl.2 hn0
      rw [e] at e'
      injection e' with e'
      injection e' with e'
      omega
    · obtain ⟨b', o', e', hlt, _⟩ := h.fq.sl.2 hn0
      rw [e] at e'
      injection e' with e'
      injection e' with e'
      omega
  · rintro i (hi | rfl | rfl)
    · exact .inl hi
    · exact .inr hs0
    · exact .inr (by omega)

set_option maxRecDepth 100000 in
set_option maxHeartbeats 8000000 in
theorem padd_new {e : Nat} (h : Fu w g G A n c dict b s) (he : e < n) :
    Calls Try.prog 33 #[.pointer (some ⟨g, 7, none⟩), .int .i64 (e : Int)] w (AddPost w g G A n c dict b s e) := by
  have c7 : w.cell? ⟨g, 7, none⟩ = some (.slice A n c) := h.fq.f.cell 7
  have c8 : w.cell? ⟨g, 8, none⟩ = some (.slice none 0 0) := h.fq.f.cell 8
  have hnil : ∀ W : World, (binOp .eql 44 (.slice none 0 0) (.slice none 0 0)).run Try.prog W = .ok (.bool true) W := fun _ => by kernel_rfl
  have hn1 := h.fq.n1
  have KL := Lib.hid (plen_any (x := n) (by omega) w)
  have e0 : IntKind.u64.wrap (n : Int) = (n : Int) := u64_in _ (by omega)
  have HF := Lib.hid h
  have HE := Lib.hid (show 0 ≤ e ∧ e < n ∧ n ≤ 1000000000 from ⟨Nat.zero_le _, he, hn1⟩)
  clear h he hn1
  go_enter Try.func33, Try.ntmps33
  go_wp2_with fail
  refine KL.out.mono ?_
  rintro x w0 ⟨⟨k, hk, rfl⟩, rfl⟩
  clear KL
  obtain ⟨S, hS⟩ : ∃ S, S = min (2 ^ k) 65536 := ⟨_, rfl⟩
  have hp1 : 1 ≤ 2 ^ k := Nat.one_le_two_pow
  have hp2 : 2 ^ k ≤ 2 ^ 32 := Nat.pow_le_pow_right (by omega) hk
  have hSS : 1 ≤ S ∧ S ≤ 65536 := by omega
  have ek : min k 64 = k := by omega
  have ep : ((2 : Int) ^ k) = ((2 ^ k : Nat) : Int) := cast_pow2 k
  have ew : wrap64 ((2 : Int) ^ k) = ((2 ^ k : Nat) : Int) := by rw [ep]; exact IntWalk.wrap64_in _ ⟨by omega, by omega⟩
  have ew2 : IntKind.i64.wrap ((2 : Int) ^ k) = ((2 ^ k : Nat) : Int) := by rw [ep]; exact IntWalk.i64_in _ (by omega)
  have k0 : (0 : Int) ≤ (k : Int) := by omega
  have k1 : (k : Int) ≤ 64 := by omega
  have hm := min2_int (P := Try.prog) #[3, 3] 3 ((2 ^ k : Nat) : Int) 65536 (S : Int) (by omega)
  obtain ⟨P2, hP2⟩ : ∃ P2, P2 = 2 ^ k := ⟨_, rfl⟩
  rw [← hP2] at ew ew2 hm hS hp1 hp2
  clear ep hP2
  have HSS := Lib.hid hSS
  obtain ⟨i, hi, hz0, hz1, hz2⟩ := info_parts info_p32
  have hmk : ∀ W : World, (Instr.makeSlice 44 (.int .i64 (S : Int)) (.int .i64 (S : Int))).run Try.prog W = .ok (.slice (some ⟨W.heap.size, 0, none⟩) S S) (W.alloc (.cells (madeCells #[.int .u32 0] S) 23)) := by
    intro W
    have := run_make (P := Try.prog) W 44 23 i (.int .u32 0) Try.underlying44 hi hz0 .i64 .i64 (S : Int) (S : Int) (by omega) (Int.le_refl _) (by rw [hz2]; omega) (by omega)
    rw [hz1, Int.toNat_natCast, Nat.mul_one] at this
    exact this
  have hmk2 : ∀ W : World, (Instr.makeSlice 44 (.int .i64 0) (.int .i64 (n : Int))).run Try.prog W = .ok (.slice (some ⟨W.heap.size, 0, none⟩) 0 n) (W.alloc (.cells (madeCells #[.int .u32 0] n) 23)) := by
    intro W
    have hn1 := HE.out.2.2
    have := run_make (P := Try.prog) W 44 23 i (.int .u32 0) Try.underlying44 hi hz0 .i64 .i64 0 (n : Int) (by omega) (by omega) (by rw [hz2]; omega) (by omega)
    rw [hz1, Int.toNat_natCast, Nat.mul_one] at this
    exact this
  obtain ⟨d1, d2, d3, d4, d5, G5, hF4, hN4, hO4⟩ := HF.out.made (Only.refl _ w) hSS.1 hSS.2 (q2 := w.heap.size + 1) rfl rfl rfl rfl rfl
  unfold lsV at d3 d4 d5
  unfold lsV asV at hF4 hO4
  have HN4 := Lib.hid hN4
  have HO4 := Lib.hid hO4
  have HF4 := Lib.hid hF4
  clear hi hz0 hz1 hz2 hS hp1 hp2 hSS hN4 hO4 hF4 HF
  go_upto_region 3 with fail
  generalize ((((w.alloc (.cells (madeCells #[.int .u32 0] S) 23)).setCell ⟨g, 8, none⟩ (.slice (some ⟨w.heap.size, 0, none⟩) S S)).alloc (.cells (madeCells #[.int .u32 0] n) 23)).setCell ⟨g, 9, none⟩ (.slice (some ⟨w.heap.size + 1, 0, none⟩) 0 n)) = w5 at *
  generalize w.heap.size + 1 = qb at *
  obtain ⟨sz, hsz⟩ : ∃ sz, sz = S := ⟨_, rfl⟩
  obtain ⟨ql, hql⟩ : ∃ ql, ql = w.heap.size := ⟨_, rfl⟩
  rw [← hsz, ← hql] at HF4
  have HQL := Lib.hid (And.intro hsz hql)
  clear c7 c8 d1 d2 d3 d4 d5 hmk hmk2 hm ew ew2 k0 k1 hnil e0 ek hsz hql HSS hk
  have c9 : w5.cell? ⟨g, 9, none⟩ = some (.slice (some ⟨qb, 0, none⟩) 0 n) := HF4.out.fq.f.cell 9
  go_wp2_with fail
  clear c9
  go_loopw [4] (fun v wr => ∃ (j : Nat) (G' : Nat → Prop) (qa ca : Nat) (cs : Array Value), j ≤ e ∧ v = .int .i64 (j : Int) ∧ Fm wr g G' A n c dict b s j sz ql qa ca cs ∧ (∀ i, G' i → G i ∨ w.heap.size ≤ i) ∧ Only G w wr) (fun v _ => e - (intOf v).toNat)
  case atStart => exact ⟨0, G5, _, _, _, Nat.zero_le _, rfl, HF4.out, HN4.out, HO4.out⟩
  case round =>
    clear HF4 HN4 HO4
    obtain ⟨j, G', qa, ca, cs, hj, rfl, hf, hnw, hO⟩ := hrel
    obtain ⟨_, he, hn⟩ := HE.out
    have HNW := Lib.hid hnw
    have HO := Lib.hid hO
    have HF := Lib.hid hf
    have hs := hO.size
    by_cases hlt : j < e
    · have i1 : (j : Int) < (e : Int) := by omega
      have K := Lib.hid (plist_any (p := j) (hf.fq.f.cell 7) (hf.fq.f.cell 8) hf.fq.sl hn (by omega) hf.md.s1 hf.md.s2)
      have HLT := Lib.hid hlt
      have HHS := Lib.hid hs
      clear hj hnw hO he hn hlt hs hf
      go_wp2_with fail
      refine K.out.mono ?_
      rintro x w1 ⟨rfl, k1, rfl⟩
      have hf := HF.out.drewN k1
      have HO1 := Lib.hid (HO.out.drewN k1)
      have HS1 := Lib.hid (show w.heap.size ≤ (wr.drewN k1).heap.size from HHS.out)
      clear K HO HF HHS
      generalize wr.drewN k1 = w2 at *
      obtain ⟨i, hi, hz0, hz1, hz2⟩ := info_parts info_p32
      have hu : hashP b sz j < sz := hash_lt hf.md.s1
      have c9 : w2.cell? ⟨g, 9, none⟩ = some (.slice (some ⟨qa, 0, none⟩) j ca) := hf.fq.f.cell 9
      have cu : w2.cell? ⟨ql, hashP b sz j, none⟩ = some (.int .u32 ((lastN (hashP b sz) (hashP b sz j) j : Nat) : Int)) := hf.md.lcell hu
      have HPU := Lib.hid (fun (k : Nat) (o : Obj) (q' c' : Nat) (w3 : World) (ho : w3.ownsRow 0 23 1 (.slice (some ⟨q', 0, none⟩) (j + 1) c') (j + 1) (prevs b sz j ++ [.int .u32 ((lastN (hashP b sz) (hashP b sz j) j : Nat) : Int)])) (hg : ((w2.drewN k).alloc o).grownBy w3 (some qa)) (hq : (some qa : Option Nat) = some q' ∨ q' = ((w2.drewN k).alloc o).heap.size) =>
        hf.push (((Only.refl (fun _ => False) w2).drewN k).alloc o) ho hg (hq.imp (fun h => by injection h) id))
      have HOA := Lib.hid (fun (k : Nat) (o : Obj) => World.ownsRow.alloc (show (w2.drewN k).ownsRow 0 23 1 (.slice (some ⟨qa, 0, none⟩) j ca) j (prevs b sz j) from hf.md.ar) o)
      have HNE := Lib.hid (fun (k : Nat) (u : Value) => (sl_one (w2.drewN k) 23 u).news)
      have c9a : (w2.alloc (.cells #[.int .u32 ((lastN (hashP b sz) (hashP b sz j) j : Nat) : Int)] 23)).cell? ⟨g, 9, none⟩ = some (.slice (some ⟨qa, 0, none⟩) j ca) := (hf.fq.f.alloc _).cell 9
      have HJ := Lib.hid (show j < e ∧ e < n ∧ n ≤ 1000000000 from ⟨HLT.out, HE.out.2⟩)
      have e1 : IntKind.i64.wrap ((j : Int) + 1) = (j : Int) + 1 := IntWalk.i64_in _ (by have := HJ.out; omega)
      have e2 : IntKind.u32.wrap ((j : Int) + 1) = (j : Int) + 1 := by have := HJ.out; simp [IntKind.wrap, IntKind.bits, IntKind.signed]; omega
      obtain ⟨u, hu0⟩ : ∃ u, u = hashP b sz j := ⟨_, rfl⟩
      obtain ⟨l, hl0⟩ : ∃ l, l = lastN (hashP b sz) u j := ⟨_, rfl⟩
      rw [← hu0, ← hl0] at cu HPU c9a
      rw [← hu0]
      clear hf hu HLT hu0 hl0
      go_wp2_with fail
      go_region_law (first | (refine step_append_lies _ rfl (.tmp 50) (.tmp 54) 44 rfl 0 23 i _ 1 4 Try.underlying44 hi hz0 hz1 hz2 rfl (by omega) _ j (prevs b sz j) rfl (HOA.out 1 _) _ 1 1 [.int .u32 (l : Int)] rfl rfl (HNE.out 1 _) (one_one _ _) (by omega) (by have := HJ.out; unfold maxLen; omega) (by have := HJ.out; omega) (Nat.zero_le _) _ rfl ?_; intro q' c' w3 ho hg hq hql3; obtain ⟨j9, z9, hP⟩ := HPU.out 1 _ q' c' w3 ho hg hq; have HP := Lib.hid hP; clear ho hg hq hP))
      all_goals
        clear c9 cu c9a HPU HOA HNE j9 z9
        obtain ⟨t1, t2, hF3, hO3, hn3⟩ := HP.out
        clear HP
        have HF3 := Lib.hid hF3
        have HO3 := Lib.hid hO3
        have HN3 := Lib.hid hn3
        clear hF3 hO3 hn3
        unfold asV at t1 t2 HF3 HO3
        generalize w3.setCell ⟨g, 9, none⟩ (.slice (some ⟨q', 0, none⟩) (j + 1) c') = w4 at *
        go_wp2_with fail
        go_roundw
        case rel => exact ⟨j + 1, _, q', c', _, by have := HJ.out; omega, by go_num, HF3.out, nw_trans HNW.out (fun i hi => by rcases hi with hi | rfl; exact .inl hi; exact HN3.out) HS1.out, only_nw HO1.out HNW.out HO3.out⟩
        case measure => have := HJ.out; simp [intOf]; omega
    · obtain rfl : j = e := by omega
      clear hj hnw hO hs hf he hn
      go_wp2_with fail
      first | go_end0 | refine bodyPost_ret (results_none rfl _ _ _) rfl ?_
      exact ⟨rfl, G', sz, ql, qa, ca, cs, HF.out, HNW.out, HO.out⟩
end
end Go.Proofs.Ytjganponepafpaa

/-
  The program's finder: the elder distances' longest copy.
-/
namespace Go.Proofs.Ytjganponepafpaa
open Go.RowKit
theorem best2_take {g : Nat → Nat} {j n : Nat} (hn : n = g j) (h2 : 2 ≤ n) (hl : (best2 g j).2 < n) : best2 g (j + 1) = (j, n) := by
  subst hn
  exact if_pos ⟨h2, hl⟩
theorem best2_skip {g : Nat → Nat} {j n : Nat} (hn : n = g j) (h : ¬ (2 ≤ n ∧ (best2 g j).2 < n)) : best2 g (j + 1) = best2 g j := by
  subst hn
  exact if_neg h
section
variable {w : World} {g : Nat} {A : Option Addr} {n c dict : Nat} {b : List UInt8} {s : Ps} {lv av : Value}
set_option maxRecDepth 100000 in
set_option maxHeartbeats 8000000 in
theorem pelder_any (h : Fq w g A n c dict b s lv av) :
    Calls Try.prog 19 #[.pointer (some ⟨g, 0, none⟩)] w fun x w' => x = .returned (.tuple #[.int .i64 (((eld2 b dict n s).1 : Nat) : Int), .int .i64 (((eld2 b dict n s).2 : Nat) : Int)]) ∧ ∃ k, w.drewN k = w' := by
  have c3 := h.c3
  have c4 := h.c4
  have c5 := h.c5
  have c6 := h.c6
  have KC := Lib.hid (fun (k d : Nat) (hd : d < 4294967296) => pcopied_any (d := d) (h.drewN k) hd)
  have HLIT := Lib.hid h.lit
  obtain ⟨gg, hg⟩ : ∃ gg : Nat → Nat, gg = fun h => cpN b dict n s.i (s.rep h) := ⟨_, rfl⟩
  have h0 : cpN b dict n s.i s.r0 = gg 0 := by rw [hg]; rfl
  have h1 : cpN b dict n s.i s.r1 = gg 1 := by rw [hg]; rfl
  have h2 : cpN b dict n s.i s.r2 = gg 2 := by rw [hg]; rfl
  have h3 : cpN b dict n s.i s.r3 = gg 3 := by rw [hg]; rfl
  have HG := Lib.hid (And.intro h0 (And.intro h1 (And.intro h2 h3)))
  have he : eld2 b dict n s = best2 gg 4 := by rw [hg]; rfl
  rw [he]
  have HN := Lib.hid (fun j => show gg j ≤ 273 by rw [hg]; have := cpN_le b dict n s.i (s.rep j); simp only; omega)
  clear h hg h0 h1 h2 h3 he
  go_enter Try.func19, Try.ntmps19
  go_wp2_with fail
  go_loopw [4, 5, 13] (fun v4 v5 v13 wr => ∃ j k : Nat, j ≤ 4 ∧ v13 = .int .i64 (j : Int) ∧ v4 = .int .i64 (((best2 gg j).1 : Nat) : Int) ∧ v5 = .int .i64 (((best2 gg j).2 : Nat) : Int) ∧ wr = w.drewN k) (fun _ _ v _ => 4 - (intOf v).toNat)
  case atStart => exact ⟨0, 0, by omega, rfl, rfl, rfl, rfl⟩
  case round =>
    obtain ⟨j, k, hj, rfl, rfl, rfl, rfl⟩ := hrel
    have hc : j = 0 ∨ j = 1 ∨ j = 2 ∨ j = 3 ∨ j = 4 := by omega
    rcases hc with rfl | rfl | rfl | rfl | rfl
    · have K := KC.out k s.r0 HLIT.out.r0
      rw [HG.out.1] at K
      have K := Lib.hid K
      have e1 : IntKind.i64.wrap (s.r0 : Int) = (s.r0 : Int) := IntWalk.i64_in _ (by have := HLIT.out.r0; omega)
      have HB := Lib.hid (HN.out 0)
      obtain ⟨x, hx⟩ : ∃ x, x = gg 0 := ⟨_, rfl⟩
      obtain ⟨a, ha⟩ : ∃ a, a = (best2 gg 0).1 := ⟨_, rfl⟩
      obtain ⟨m, hm⟩ : ∃ m, m = (best2 gg 0).2 := ⟨_, rfl⟩
      rw [← hx] at K HB
      rw [← ha, ← hm]
      have e2 : IntKind.i64.wrap ((0 : Int) + 1) = 1 := by decide
      have hix : ∀ W : World, (Instr.index 47 (.agg #[.int .u32 (s.r0 : Int), .int .u32 (s.r1 : Int), .int .u32 (s.r2 : Int), .int .u32 (s.r3 : Int)]) (.int .i64 0)).run Try.prog W = .ok (.int .u32 (s.r0 : Int)) W := fun _ => by kernel_rfl
      clear hj
      by_cases g1 : 2 ≤ x
      · by_cases g2 : m < x
        · have HR := Lib.hid (best2_take hx g1 (by omega))
          have i1 : (2 : Int) ≤ (x : Int) := by omega
          have i2 : (m : Int) < (x : Int) := by omega
          clear hx ha hm g1 g2
          go_wp2_with fail
          refine K.out.mono ?_
          rintro e w1 ⟨rfl, k1, rfl⟩
          go_wp2_with fail
          go_roundw
          case rel => exact ⟨1, k + k1, by omega, by first | rfl | go_num, by rw [HR.out]; first | done | rfl, by rw [HR.out]; first | done | rfl, by first | rfl | exact World.drewN_drewN⟩
          case measure => simp [intOf]
        · have HR := Lib.hid (show (best2 gg 1).1 = a ∧ (best2 gg 1).2 = m by rw [best2_skip hx (fun h => by omega)]; exact ⟨ha.symm, hm.symm⟩)
          have i1 : (2 : Int) ≤ (x : Int) := by omega
          have i2 : ¬ (m : Int) < (x : Int) := by omega
          clear hx ha hm g1 g2
          go_wp2_with fail
          refine K.out.mono ?_
          rintro e w1 ⟨rfl, k1, rfl⟩
          go_wp2_with fail
          go_roundw
          case rel => exact ⟨1, k + k1, by omega, by first | rfl | go_num, by rw [HR.out.1], by rw [HR.out.2], by first | rfl | exact World.drewN_drewN⟩
          case measure => simp [intOf]
      · have HR := Lib.hid (show (best2 gg 1).1 = a ∧ (best2 gg 1).2 = m by rw [best2_skip hx (fun h => by omega)]; exact ⟨ha.symm, hm.symm⟩)
        have i1 : ¬ (2 : Int) ≤ (x : Int) := by omega
        clear hx ha hm g1
        go_wp2_with fail
        refine K.out.mono ?_
        rintro e w1 ⟨rfl, k1, rfl⟩
        go_wp2_with fail
        go_roundw
        case rel => exact ⟨1, k + k1, by omega, by first | rfl | go_num, by rw [HR.out.1], by rw [HR.out.2], by first | rfl | exact World.drewN_drewN⟩
        case measure => simp [intOf]
    · have K := KC.out k s.r1 HLIT.out.r1
      rw [HG.out.2.1] at K
      have K := Lib.hid K
      have e1 : IntKind.i64.wrap (s.r1 : Int) = (s.r1 : Int) := IntWalk.i64_in _ (by have := HLIT.out.r1; omega)
      have HB := Lib.hid (HN.out 1)
      obtain ⟨x, hx⟩ : ∃ x, x = gg 1 := ⟨_, rfl⟩
      obtain ⟨a, ha⟩ : ∃ a, a = (best2 gg 1).1 := ⟨_, rfl⟩
      obtain ⟨m, hm⟩ : ∃ m, m = (best2 gg 1).2 := ⟨_, rfl⟩
      rw [← hx] at K HB
      rw [← ha, ← hm]
      have e2 : IntKind.i64.wrap ((1 : Int) + 1) = 2 := by decide
      have hix : ∀ W : World, (Instr.index 47 (.agg #[.int .u32 (s.r0 : Int), .int .u32 (s.r1 : Int), .int .u32 (s.r2 : Int), .int .u32 (s.r3 : Int)]) (.int .i64 1)).run Try.prog W = .ok (.int .u32 (s.r1 : Int)) W := fun _ => by kernel_rfl
      clear hj
      by_cases g1 : 2 ≤ x
      · by_cases g2 : m < x
        · have HR := Lib.hid (best2_take hx g1 (by omega))
          have i1 : (2 : Int) ≤ (x : Int) := by omega
          have i2 : (m : Int) < (x : Int) := by omega
          clear hx ha hm g1 g2
          go_wp2_with fail
          refine K.out.mono ?_
          rintro e w1 ⟨rfl, k1, rfl⟩
          go_wp2_with fail
          go_roundw
          case rel => exact ⟨2, k + k1, by omega, by first | rfl | go_num, by rw [HR.out]; first | done | rfl, by rw [HR.out]; first | done | rfl, by first | rfl | exact World.drewN_drewN⟩
          case measure => simp [intOf]
        · have HR := Lib.hid (show (best2 gg 2).1 = a ∧ (best2 gg 2).2 = m by rw [best2_skip hx (fun h => by omega)]; exact ⟨ha.symm, hm.symm⟩)
          have i1 : (2 : Int) ≤ (x : Int) := by omega
          have i2 : ¬ (m : Int) < (x : Int) := by omega
          clear hx ha hm g1 g2
          go_wp2_with fail
          refine K.out.mono ?_
          rintro e w1 ⟨rfl, k1, rfl⟩
          go_wp2_with fail
          go_roundw
          case rel => exact ⟨2, k + k1, by omega, by first | rfl | go_num, by rw [HR.out.1], by rw [HR.out.2], by first | rfl | exact World.drewN_drewN⟩
          case measure => simp [intOf]
      · have HR := Lib.hid (show (best2 gg 2).1 = a ∧ (best2 gg 2).2 = m by rw [best2_skip hx (fun h => by omega)]; exact ⟨ha.symm, hm.symm⟩)
        have i1 : ¬ (2 : Int) ≤ (x : Int) := by omega
        clear hx ha hm g1
        go_wp2_with fail
        refine K.out.mono ?_
        rintro e w1 ⟨rfl, k1, rfl⟩
        go_wp2_with fail
        go_roundw
        case rel => exact ⟨2, k + k1, by omega, by first | rfl | go_num, by rw [HR.out.1], by rw [HR.out.2], by first | rfl | exact World.drewN_drewN⟩
        case measure => simp [intOf]
    · have K := KC.out k s.r2 HLIT.out.r2
      rw [HG.out.2.2.1] at K
      have K := Lib.hid K
      have e1 : IntKind.i64.wrap (s.r2 : Int) = (s.r2 : Int) := IntWalk.i64_in _ (by have := HLIT.out.r2; omega)
      have HB := Lib.hid (HN.out 2)
      obtain ⟨x, hx⟩ : ∃ x, x = gg 2 := ⟨_, rfl⟩
      obtain ⟨a, ha⟩ : ∃ a, a = (best2 gg 2).1 := ⟨_, rfl⟩
      obtain ⟨m, hm⟩ : ∃ m, m = (best2 gg 2).2 := ⟨_, rfl⟩
      rw [← hx] at K HB
      rw [← ha, ← hm]
      have e2 : IntKind.i64.wrap ((2 : Int) + 1) = 3 := by decide
      have hix : ∀ W : World, (Instr.index 47 (.agg #[.int .u32 (s.r0 : Int), .int .u32 (s.r1 : Int), .int .u32 (s.r2 : Int), .int .u32 (s.r3 : Int)]) (.int .i64 2)).run Try.prog W = .ok (.int .u32 (s.r2 : Int)) W := fun _ => by kernel_rfl
      clear hj
      by_cases g1 : 2 ≤ x
      · by_cases g2 : m < x
        · have HR := Lib.hid (best2_take hx g1 (by omega))
          have i1 : (2 : Int) ≤ (x : Int) := by omega
          have i2 : (m : Int) < (x : Int) := by omega
          clear hx ha hm g1 g2
          go_wp2_with fail
          refine K.out.mono ?_
          rintro e w1 ⟨rfl, k1, rfl⟩
          go_wp2_with fail
          go_roundw
          case rel => exact ⟨3, k + k1, by omega, by first | rfl | go_num, by rw [HR.out]; first | done | rfl, by rw [HR.out]; first | done | rfl, by first | rfl | exact World.drewN_drewN⟩
          case measure => simp [intOf]
        · have HR := Lib.hid (show (best2 gg 3).1 = a ∧ (best2 gg 3).2 = m by rw [best2_skip hx (fun h => by omega)]; exact ⟨ha.symm, hm.symm⟩)
          have i1 : (2 : Int) ≤ (x : Int) := by omega
          have i2 : ¬ (m : Int) < (x : Int) := by omega
          clear hx ha hm g1 g2
          go_wp2_with fail
          refine K.out.mono ?_
          rintro e w1 ⟨rfl, k1, rfl⟩
          go_wp2_with fail
          go_roundw
          case rel => exact ⟨3, k + k1, by omega, by first | rfl | go_num, by rw [HR.out.1], by rw [HR.out.2], by first | rfl | exact World.drewN_drewN⟩
          case measure => simp [intOf]
      · have HR := Lib.hid (show (best2 gg 3).1 = a ∧ (best2 gg 3).2 = m by rw [best2_skip hx (fun h => by omega)]; exact ⟨ha.symm, hm.symm⟩)
        have i1 : ¬ (2 : Int) ≤ (x : Int) := by omega
        clear hx ha hm g1
        go_wp2_with fail
        refine K.out.mono ?_
        rintro e w1 ⟨rfl, k1, rfl⟩
        go_wp2_with fail
        go_roundw
        case rel => exact ⟨3, k + k1, by omega, by first | rfl | go_num, by rw [HR.out.1], by rw [HR.out.2], by first | rfl | exact World.drewN_drewN⟩
        case measure => simp [intOf]
    · have K := KC.out k s.r3 HLIT.out.r3
      rw [HG.out.2.2.2] at K
      have K := Lib.hid K
      have e1 : IntKind.i64.wrap (s.r3 : Int) = (s.r3 : Int) := IntWalk.i64_in _ (by have := HLIT.out.r3; omega)
      have HB := Lib.hid (HN.out 3)
      obtain ⟨x, hx⟩ : ∃ x, x = gg 3 := ⟨_, rfl⟩
      obtain ⟨a, ha⟩ : ∃ a, a = (best2 gg 3).1 := ⟨_, rfl⟩
      obtain ⟨m, hm⟩ : ∃ m, m = (best2 gg 3).2 := ⟨_, rfl⟩
      rw [← hx] at K HB
      rw [← ha, ← hm]
      have e2 : IntKind.i64.wrap ((3 : Int) + 1) = 4 := by decide
      have hix : ∀ W : World, (Instr.index 47 (.agg #[.int .u32 (s.r0 : Int), .int .u32 (s.r1 : Int), .int .u32 (s.r2 : Int), .int .u32 (s.r3 : Int)]) (.int .i64 3)).run Try.prog W = .ok (.int .u32 (s.r3 : Int)) W := fun _ => by kernel_rfl
      clear hj
      by_cases g1 : 2 ≤ x
      · by_cases g2 : m < x
        · have HR := Lib.hid (best2_take hx g1 (by omega))
          have i1 : (2 : Int) ≤ (x : Int) := by omega
          have i2 : (m : Int) < (x : Int) := by omega
          clear hx ha hm g1 g2
          go_wp2_with fail
          refine K.out.mono ?_
          rintro e w1 ⟨rfl, k1, rfl⟩
          go_wp2_with fail
          go_roundw
          case rel => exact ⟨4, k + k1, by omega, by first | rfl | go_num, by rw [HR.out]; first | done | rfl, by rw [HR.out]; first | done | rfl, by first | rfl | exact World.drewN_drewN⟩
          case measure => simp [intOf]
        · have HR := Lib.hid (show (best2 gg 4).1 = a ∧ (best2 gg 4).2 = m by rw [best2_skip hx (fun h => by omega)]; exact ⟨ha.symm, hm.symm⟩)
          have i1 : (2 : Int) ≤ (x : Int) := by omega
          have i2 : ¬ (m : Int) < (x : Int) := by omega
          clear hx ha hm g1 g2
          go_wp2_with fail
          refine K.out.mono ?_
          rintro e w1 ⟨rfl, k1, rfl⟩
          go_wp2_with fail
          go_roundw
          case rel => exact ⟨4, k + k1, by omega, by first | rfl | go_num, by rw [HR.out.1], by rw [HR.out.2], by first | rfl | exact World.drewN_drewN⟩
          case measure => simp [intOf]
      · have HR := Lib.hid (show (best2 gg 4).1 = a ∧ (best2 gg 4).2 = m by rw [best2_skip hx (fun h => by omega)]; exact ⟨ha.symm, hm.symm⟩)
        have i1 : ¬ (2 : Int) ≤ (x : Int) := by omega
        clear hx ha hm g1
        go_wp2_with fail
        refine K.out.mono ?_
        rintro e w1 ⟨rfl, k1, rfl⟩
        go_wp2_with fail
        go_roundw
        case rel => exact ⟨4, k + k1, by omega, by first | rfl | go_num, by rw [HR.out.1], by rw [HR.out.2], by first | rfl | exact World.drewN_drewN⟩
        case measure => simp [intOf]
    · clear KC HG HN HLIT hj
      go_wp2_with fail
      go_ret2
      exact ⟨rfl, k, rfl⟩
end
end Go.Proofs.Ytjganponepafpaa

/-
  The program's finder: the longest copy by the lists of places.
-/
namespace Go.Proofs.Ytjganponepafpaa
open Go.RowKit

/-- the finder, its lists made or not -/
def Fd (w : World) (g : Nat) (G : Nat → Prop) (A : Option Addr) (n c dict : Nat) (b : List UInt8) (s : Ps) (cnt : Nat) : Prop :=
  (Fu w g G A n c dict b s ∧ cnt = 0) ∨ ∃ (sz ql qa ca : Nat) (cs : Array Value), Fm w g G A n c dict b s cnt sz ql qa ca cs
def FdPost (w : World) (g : Nat) (G : Nat → Prop) (A : Option Addr) (n c dict : Nat) (b : List UInt8) (s : Ps) (w' : World) : Prop :=
  ∃ (G' : Nat → Prop) (cnt : Nat), Fd w' g G' A n c dict b s cnt ∧ cnt ≤ s.i ∧ (∀ i, G' i → G i ∨ w.heap.size ≤ i) ∧ Only G w w'
def LonPost (w : World) (g : Nat) (G : Nat → Prop) (A : Option Addr) (n c dict : Nat) (b : List UInt8) (s : Ps) (r : Nat × Nat) (x : Ending) (w' : World) : Prop :=
  x = .returned (.tuple #[.int .i64 (r.1 : Int), .int .i64 (r.2 : Int)]) ∧ FdPost w g G A n c dict b s w'
section
variable {w : World} {g : Nat} {G : Nat → Prop} {A : Option Addr} {n c dict : Nat} {b : List UInt8} {s : Ps} {cnt : Nat}
theorem Fu.drewN (h : Fu w g G A n c dict b s) (k : Nat) : Fu (w.drewN k) g G A n c dict b s := ⟨h.fq.drewN k, h.gg, h.lt, h.ap⟩
theorem Fd.drewN (h : Fd w g G A n c dict b s cnt) (k : Nat) : Fd (w.drewN k) g G A n c dict b s cnt := by
  rcases h with ⟨h, hc⟩ | ⟨sz, ql, qa, ca, cs, h⟩
  · exact .inl ⟨h.drewN k, hc⟩
  · exact .inr ⟨sz, ql, qa, ca, cs, h.drewN k⟩
theorem Fd.fq (h : Fd w g G A n c dict b s cnt) : ∃ lv av, Fq w g A n c dict b s lv av := by
  rcases h with ⟨h, _⟩ | ⟨sz, ql, qa, ca, cs, h⟩
  · exact ⟨_, _, h.fq⟩
  · exact ⟨_, _, h.fq⟩
theorem Fd.lt (h : Fd w g G A n c dict b s cnt) : ∀ i, G i → i < w.heap.size := by
  rcases h with ⟨h, _⟩ | ⟨sz, ql, qa, ca, cs, h⟩
  · exact h.lt
  · exact h.lt
theorem Fd.same (h : Fd w g G A n c dict b s cnt) (hc : cnt ≤ s.i) (k : Nat) : FdPost w g G A n c dict b s (w.drewN k) :=
  ⟨G, cnt, h.drewN k, hc, fun i hi => .inl hi, (Only.refl _ w).drewN k⟩
theorem padd_any {e : Nat} (h : Fd w g G A n c dict b s cnt) (hc : cnt ≤ e) (he : e < n) :
    Calls Try.prog 33 #[.pointer (some ⟨g, 7, none⟩), .int .i64 (e : Int)] w (AddPost w g G A n c dict b s e) := by
  rcases h with ⟨h, _⟩ | ⟨sz, ql, qa, ca, cs, h⟩
  · exact padd_new h he
  · exact padd_made h hc he
end

/-! ### the loop's numbers -/
section
variable {b : List UInt8} {dict n at_ l m sz : Nat} {x : Nat × Nat}
/-- what is known when the places from m on were looked at -/
structure Lon (b : List UInt8) (dict n at_ l sz m : Nat) (x : Nat × Nat) : Prop where
  is : wor (fun d => cpN b dict n at_ d) l (at_ - m) = x
  m1 : m ≤ at_
  m2 : at_ - m ≤ dict
theorem Lon.start (b : List UInt8) (dict n at_ l sz : Nat) : Lon b dict n at_ l sz at_ (0, 0) := ⟨by rw [Nat.sub_self]; exact wor_zero _ _, Nat.le_refl _, by omega⟩
theorem Lon.or (h : Lon b dict n at_ l sz m x) : x = (0, 0) ∨ l ≤ x.2 := by rw [← h.is]; exact wor_or _ _ _
theorem Lon.ge (h : Lon b dict n at_ l sz m x) (h2 : 2 ≤ l) : 2 ≤ leastOf l x := least_ge h2 (h.or.imp (fun e => by rw [e]) id)
theorem Lon.le (h : Lon b dict n at_ l sz m x) (hl : l ≤ 1000) : leastOf l x ≤ 1000 := by
  have : x.2 ≤ 273 := by
    rw [← h.is]
    unfold wor
    split
    · by_cases h0 : 0 < (best (fun d => cpN b dict n at_ d) (at_ - m)).2
      · have := (best_is _ _ h0).2.1
        rw [← this]
        have := cpN_le b dict n at_ (best (fun d => cpN b dict n at_ d) (at_ - m)).1
        omega
      · omega
    · exact Nat.zero_le _
  unfold leastOf
  split <;> omega
/-- distances of places of another list aren't worth it -/
theorem Lon.other (h2 : 2 ≤ l) (h : Lon b dict n at_ l sz m x) {d : Nat} (hd : d < at_) (hh : hashP b sz (at_ - 1 - d) ≠ hashP b sz at_) : cpN b dict n at_ d < leastOf l x := by
  have hg := h.ge h2
  by_cases hc : 2 ≤ cpN b dict n at_ d
  · obtain ⟨_, _, e0, e1⟩ := cp_short hc
    exact absurd (hash_same e0 e1).symm hh
  · omega
theorem Lon.end_most (h : Lon b dict n at_ l sz m x) (h2 : 2 ≤ l) (hm : ¬ leastOf l x ≤ min 273 (n - at_)) : wor (fun d => cpN b dict n at_ d) l (min at_ dict) = x := by
  have := h.m1
  have := h.m2
  rw [wor_to (n := at_ - m) (by omega) (by omega) (fun d _ _ => by rw [h.is]; have := cpN_le b dict n at_ d; omega)]
  exact h.is
theorem Lon.end_none (h : Lon b dict n at_ l sz m x) (h2 : 2 ≤ l) (hp : (lastN (hashP b sz) (hashP b sz at_) m : Int) - 1 < max ((at_ : Int) - (dict : Int)) 0) : wor (fun d => cpN b dict n at_ d) l (min at_ dict) = x := by
  have h1 := h.m1
  have h3 := h.m2
  rw [wor_to (n := at_ - m) (by omega) (by omega) (fun d hd1 hd2 => by
    rw [h.is]
    refine h.other h2 (by omega) ?_
    cases hq : lastN (hashP b sz) (hashP b sz at_) m with
    | zero => exact lastN_none hq _ (by omega)
    | succ q =>
      obtain ⟨_, _, h5⟩ := lastN_some hq
      rw [hq] at hp
      exact h5 _ (by omega) (by omega))]
  exact h.is
/-- up to the place that is looked at -/
theorem Lon.upto (h : Lon b dict n at_ l sz m x) (h2 : 2 ≤ l) {q : Nat} (hq : lastN (hashP b sz) (hashP b sz at_) m = q + 1) : wor (fun d => cpN b dict n at_ d) l (at_ - 1 - q) = x := by
  have h1 := h.m1
  obtain ⟨h3, _, h5⟩ := lastN_some hq
  rw [wor_to (n := at_ - m) (by omega) (by omega) (fun d hd1 hd2 => by rw [h.is]; exact h.other h2 (by omega) (h5 _ (by omega) (by omega)))]
  exact h.is
theorem Lon.skip (h : Lon b dict n at_ l sz m x) (h2 : 2 ≤ l) {q : Nat} (hq : lastN (hashP b sz) (hashP b sz at_) m = q + 1) (ho : max ((at_ : Int) - (dict : Int)) 0 ≤ (q : Int)) (hg : cpN b dict n at_ (at_ - 1 - q) < leastOf l x) : Lon b dict n at_ l sz q x := by
  have h1 := h.m1
  obtain ⟨h3, _, _⟩ := lastN_some hq
  refine ⟨?_, by omega, by omega⟩
  have := wor_skip (g := fun d => cpN b dict n at_ d) (l0 := l) (n := at_ - 1 - q) (by omega) (by rw [h.upto h2 hq]; exact hg)
  rw [h.upto h2 hq] at this
  rwa [show at_ - 1 - q + 1 = at_ - q by omega] at this
theorem Lon.take (h : Lon b dict n at_ l sz m x) (h2 : 2 ≤ l) {q : Nat} (hq : lastN (hashP b sz) (hashP b sz at_) m = q + 1) (ho : max ((at_ : Int) - (dict : Int)) 0 ≤ (q : Int)) (hg : leastOf l x ≤ cpN b dict n at_ (at_ - 1 - q)) : Lon b dict n at_ l sz q (at_ - 1 - q, cpN b dict n at_ (at_ - 1 - q)) := by
  have h1 := h.m1
  obtain ⟨h3, _, _⟩ := lastN_some hq
  refine ⟨?_, by omega, by omega⟩
  have := wor_take (g := fun d => cpN b dict n at_ d) (l0 := l) (n := at_ - 1 - q) (by omega) (by rw [h.upto h2 hq]; exact hg)
  rwa [show at_ - 1 - q + 1 = at_ - q by omega] at this
end
end Go.Proofs.Ytjganponepafpaa
