/-
  LwUp, LzSet, LzNew, LzAwk, BytN, LzRes: put together.
-/
import Derived.Test.YtjgdjobhhdhfjaaFa24
import Derived.Test.YtjgdjobhhdhfjaaFa08
import Derived.Test.YtjgdjobhhdhfjaaFa01
import Derived.Deep.Cut
import Derived.Test.YtjgdjobhhdhfjaaFa04
import Derived.Deep.AppendLies
import Derived.LoopTactic
import Derived.Test.YtjgdjobhhdhfjaaFa10
import Derived.Laws.MakeOwn
set_option linter.unusedVariables false
set_option linter.unusedSimpArgs false
/-
  The program's Unpack: what stands between two bytes.
-/
namespace Go.Proofs.Ytjgdjobhhdhfjaa
open Go.RowKit

/-- fuel that is enough is enough -/
theorem upG_fuel {size : Int} : ∀ (f g : Nat) (z : Lzs) (t : Pm Dc), size.toNat ≤ z.out.length + f → size.toNat ≤ z.out.length + g → upG size f z t = upG size g z t
  | f, g, z, t, hf, hg => by
    by_cases h : (z.out.length : Int) < size
    · obtain ⟨f', rfl⟩ : ∃ f', f = f' + 1 := ⟨f - 1, by omega⟩
      obtain ⟨g', rfl⟩ : ∃ g', g = g' + 1 := ⟨g - 1, by omega⟩
      by_cases hs : stopD size (packP decM z t pk0) = true
      · rw [upG_stop h hs, upG_stop h hs]
      · rw [upG_go h hs, upG_go h hs]
        have hm := pack_more (size := size) (z := z) (t := t) (by simpa using hs)
        exact upG_fuel f' g' _ _ (by omega) (by omega)
    · rw [upG_done h, upG_done h]
/-- what is to come of it -/
def resN (size : Int) (zf : Lzs) (tf : Pm Dc) : Option (List UInt8) := if size.toNat < zf.out.length then none else finU (upG size (size.toNat - zf.out.length) zf tf)
theorem resN_next {size : Int} {zf : Lzs} {tf : Pm Dc} (h : (zf.out.length : Int) < size) (hs : ¬ stopP (packP decM zf tf pk0)) : resN size zf tf = resN size (packP decM zf tf pk0).2.1 (packP decM zf tf pk0).2.2 := by
  obtain ⟨f, hf⟩ : ∃ f, size.toNat - zf.out.length = f + 1 := ⟨size.toNat - zf.out.length - 1, by omega⟩
  unfold resN
  rw [if_neg (by omega), hf]
  obtain ⟨r, hr⟩ : ∃ r, r = packP decM zf tf pk0 := ⟨_, rfl⟩
  have hx : r.2.2.x ≠ none := fun e => hs (hr ▸ .inl e)
  have hb : r.2.1.bad = false := by
    cases h : r.2.1.bad with
    | false => rfl
    | true => exact absurd (hr ▸ Or.inr (Or.inl h)) hs
  have he : r.2.1.ended = false := by
    cases h : r.2.1.ended with
    | false => rfl
    | true => exact absurd (hr ▸ Or.inr (Or.inr h)) hs
  have hst : stopD size r = decide (size < (r.2.1.out.length : Int)) := by
    unfold stopD
    rw [hb, he, live_bad hx]
    rfl
  rw [← hr]
  by_cases hl : size.toNat < r.2.1.out.length
  · rw [if_pos hl, upG_stop h (by rw [← hr, hst]; exact decide_eq_true (by omega))]
    rfl
  · have hn : ¬ stopD size r = true := by rw [hst]; simp; omega
    rw [if_neg hl, upG_go h (by rw [← hr]; exact hn)]
    rw [← hr]
    have hm := pack_more (size := size) (z := zf) (t := tf) (by rw [← hr]; simpa using hn)
    rw [← hr] at hm
    rw [upG_fuel f (size.toNat - r.2.1.out.length) _ _ (by omega) (by omega)]
theorem resN_stop {size : Int} {zf : Lzs} {tf : Pm Dc} (h : (zf.out.length : Int) < size) (hs : stopP (packP decM zf tf pk0)) : resN size zf tf = none := by
  obtain ⟨f, hf⟩ : ∃ f, size.toNat - zf.out.length = f + 1 := ⟨size.toNat - zf.out.length - 1, by omega⟩
  unfold resN
  rw [if_neg (by omega), hf, upG_stop h]
  · rfl
  · unfold stopD
    rcases hs with hs | hs | hs
    · rw [dead_bad hs]; simp
    · rw [hs]; rfl
    · rw [hs]; simp
theorem resN_end {size : Int} {zf : Lzs} {tf : Pm Dc} {n : Nat} {b : Bool} (hn : n ≤ size.toNat) (hs : ¬ (n : Int) < size) (hl : n ≤ zf.out.length) (h1 : n < zf.out.length → b = false) (h2 : n = zf.out.length → finD zf tf = if b = true then some zf.out else none) : resN size zf tf = if b = true then some (zf.out.take n) else none := by
  unfold resN
  by_cases hlt : n < zf.out.length
  · rw [h1 hlt, if_pos (by omega)]
    rfl
  · obtain rfl : n = zf.out.length := by omega
    rw [if_neg (by omega), upG_done hs, List.take_length]
    exact h2 rfl
theorem resN_start {size : Int} {lc lp pb dict : Nat} {bs : List UInt8} : unpackN bs lc lp pb dict size = resN size (Lzs.start lc lp pb dict) ⟨List.replicate (probsN lc lp) 1024, started bs⟩ := by
  unfold unpackN resN
  have h0 : (Lzs.start lc lp pb dict).out.length = 0 := rfl
  rw [h0, if_neg (Nat.not_lt_zero _), Nat.sub_zero]

section
variable {K : Kon} {w w' : World} {Gw S : Nat → Prop} {zf : Lzs} {tf : Pm Dc} {n : Nat}
theorem Nx.only (h : Nx K w Gw zf tf n) (hO : Only S w w') (h1 : ∀ i, S i → K.dg < i) (h2 : ∀ i, Gw i → ¬ S i) : Nx K w' Gw zf tf n := by
  have hlo := h.lw.mch.pd.lo
  have hap := h.lw.ap
  refine ⟨⟨⟨h.lw.mch.pd.only hO (fun i hi => .inr (h1 i hi)), (K.prb _ hap.gn).only h.lw.mch.row hO (fun i hi hs => ?_), h.lw.mch.ok⟩, h.lw.win.only hO h2, hap⟩, h.le, h.far, h.near, h.live, h.bad, h.ended, h.tell⟩
  have := h1 i hs
  have a1 := hap.gl
  have a2 := hap.ll
  rcases hi with rfl | rfl
  · omega
  · omega
theorem Apart.meter (h : Apart K Gw) (hp : K.lo ≤ K.f ∧ K.f < K.dg) : ¬ K.all Gw K.m := by
  rintro ((e | e | e | e) | e)
  · have := h.ml; omega
  · have := h.ml; omega
  · exact h.mg e
  · exact h.mb e
  · exact (h.wd _ e).2.2.1 rfl

/-- what stands between two bytes: n of them are in the row that v is -/
structure Inv (K : Kon) (B : Nat) (w : World) (size : Int) (dict : Nat) (res : Option (List UInt8)) (q : Quo) (t : Tel) (v : Value) (wr : World) (n : Nat) (zf : Lzs) (tf : Pm Dc) (Gw : Nat → Prop) : Prop where
  nx : Nx K wr Gw zf tf n
  own : wr.ownsRow B 5 1 v n (bv (zf.out.take n))
  far : ∀ b, v.ownBlock = some b → ¬ Gw b
  le : n ≤ size.toNat
  res : res = resN size zf tf
  fit : zf.dict = dict
  mt : MeterAt wr 105 K.m q t
  only : Only (fun i => i = K.m) w wr
  gm : ∀ i, Gw i → w.heap.size ≤ i
  low : w.heap.size ≤ K.g ∧ w.heap.size ≤ K.lb ∧ w.heap.size ≤ K.lo ∧ K.dg < B
  bot : B ≤ wr.heap.size

/-- a byte has been told, it isn't put yet -/
structure Mid (K : Kon) (B : Nat) (w : World) (size : Int) (dict : Nat) (res : Option (List UInt8)) (q : Quo) (t : Tel) (v : Value) (wr : World) (n : Nat) (zf : Lzs) (tf : Pm Dc) (Gw : Nat → Prop) : Prop where
  nx : Nx K wr Gw zf tf (n + 1)
  own : wr.ownsRow B 5 1 v n (bv (zf.out.take n))
  far : ∀ b, v.ownBlock = some b → ¬ Gw b
  le : n + 1 ≤ size.toNat
  res : res = resN size zf tf
  fit : zf.dict = dict
  mt : MeterAt wr 105 K.m q t
  only : Only (fun i => i = K.m) w wr
  gm : ∀ i, Gw i → w.heap.size ≤ i
  low : w.heap.size ≤ K.g ∧ w.heap.size ≤ K.lb ∧ w.heap.size ≤ K.lo ∧ K.dg < B
  bot : B ≤ wr.heap.size
end

theorem own_at {w : World} {base : Nat} {e : TypeId} {v : Value} {n : Nat} {xs : List Value} (h : w.ownsRow base e 1 v n xs) {b : Nat} (hb : v.ownBlock = some b) : base ≤ b ∧ b < w.heap.size := by
  rcases h.2 with ⟨rfl, _⟩ | ⟨g, cap, cur, rfl, h1, h2, _⟩
  · cases hb
  · injection hb with hb
    subst hb
    exact ⟨h1, (Array.getElem?_eq_some_iff.1 h2).1⟩
theorem own_onlyV {w w' : World} {S : Nat → Prop} {base : Nat} {e : TypeId} {v : Value} {n : Nat} {xs : List Value} (h : w.ownsRow base e 1 v n xs) (hO : Only S w w') (hS : ∀ b, v.ownBlock = some b → ¬ S b) : w'.ownsRow base e 1 v n xs := by
  refine ⟨h.1, ?_⟩
  rcases h.2 with hn | ⟨g, cap, cur, rfl, hb, hgg, rest⟩
  · exact .inl hn
  · refine .inr ⟨g, cap, cur, rfl, hb, ?_, rest⟩
    rw [hO.block g (Array.getElem?_eq_some_iff.1 hgg).1 (hS g rfl)]
    exact hgg

section
variable {K : Kon} {w wr w6 w7 : World} {Gw Gw' : Nat → Prop} {zf zf' : Lzs} {tf tf' : Pm Dc} {n B dict : Nat} {size : Int} {res : Option (List UInt8)} {q : Quo} {t : Tel} {v v' : Value} {o : Obj}
theorem Inv.told (h : Inv K B w size dict res q t v wr n zf tf Gw) (hlt : (n : Int) < size) (hN : Nx K w6 Gw' zf' tf' (n + 1)) (hd : zf'.dict = zf.dict) (ht : zf'.out.take n = zf.out.take n)
    (hc : (n < zf.out.length ∧ zf' = zf ∧ tf' = tf) ∨ (n = zf.out.length ∧ ¬ stopP (packP decM zf tf pk0) ∧ zf' = (packP decM zf tf pk0).2.1 ∧ tf' = (packP decM zf tf pk0).2.2))
    (hG : ∀ i, Gw' i → Gw i ∨ wr.heap.size ≤ i) (hO : Only (K.all Gw) wr w6) : Mid K B w size dict res q t v w6 n zf' tf' Gw' := by
  have hlo := h.nx.lw.mch.pd.lo
  have hap := h.nx.lw.ap
  obtain ⟨l1, l2, l3, l4⟩ := h.low
  have hsz := h.only.size
  have hall : ∀ b, v.ownBlock = some b → ¬ K.all Gw b := by
    intro b hb hk
    have h1 := (own_at h.own hb).1
    have a1 := hap.gl
    have a2 := hap.ll
    rcases hk with (e | e | e | e) | e
    · omega
    · omega
    · omega
    · omega
    · exact h.far b hb e
  refine ⟨hN, by rw [ht]; exact own_onlyV h.own hO hall, fun b hb hg => ?_, by omega, ?_, hd.trans h.fit, h.mt.only hO (hap.meter hlo), h.only.trans' hO (fun i hi => .inr ?_), fun i hi => ?_, h.low, Nat.le_trans h.bot hO.size⟩
  · rcases hG b hg with h1 | h1
    · exact h.far b hb h1
    · have := (own_at h.own hb).2
      omega
  · rcases hc with ⟨_, rfl, rfl⟩ | ⟨rfl, hs, rfl, rfl⟩
    · exact h.res
    · rw [h.res]
      exact resN_next hlt hs
  · rcases hi with (e | e | e | e) | e
    · omega
    · omega
    · omega
    · omega
    · exact h.gm i e
  · rcases hG i hi with h1 | h1
    · exact h.gm i h1
    · omega
theorem Mid.put (h : Mid K B w size dict res q t v w6 n zf tf Gw) (ho : w7.ownsRow B 5 1 v' (n + 1) (bv (zf.out.take n) ++ [.int .u8 ((zf.out.getD n 0).toNat : Int)])) (hg : (w6.alloc o).grownBy w7 v.ownBlock) (hv : v'.ownBlock = v.ownBlock ∨ v'.ownBlock = some (w6.alloc o).heap.size) :
    Inv K B w size dict res q t v' w7 (n + 1) zf tf Gw := by
  have hlo := h.nx.lw.mch.pd.lo
  have hap := h.nx.lw.ap
  obtain ⟨l1, l2, l3, l4⟩ := h.low
  have hle := h.nx.le
  have hsz := h.only.size
  have hO : Only (fun i => v.ownBlock = some i) w6 w7 := by
    have h1 : Only (fun i => v.ownBlock = some i) w6 (w6.alloc o) := (Only.refl _ w6).alloc _
    refine h1.trans ⟨hg.os, hg.tape, hg.output, hg.size, fun i hi hn => hg.block i hi (fun e => hn e.symm)⟩
  have hB : ∀ i, v.ownBlock = some i → B ≤ i := fun i hi => (own_at h.own hi).1
  refine ⟨h.nx.only hO (fun i hi => by have := hB i hi; omega) (fun i hi hs => h.far i hs hi), ?_, fun b hb hgw => ?_, h.le, h.res, h.fit, h.mt.only hO (fun e => ?_), h.only.trans' hO (fun i hi => .inr ?_), h.gm, h.low, Nat.le_trans h.bot hO.size⟩
  · rw [take_snoc8 _ _ (by omega), bv_append]
    exact ho
  · rcases hv with e | e
    · exact h.far b (e ▸ hb) hgw
    · rw [e] at hb
      injection hb with hb
      have h1 := h.nx.lw.win.old hgw
      have h2 : (w6.alloc o).heap.size = w6.heap.size + 1 := by simp
      omega
  · have h1 := hB _ e
    have := hap.ml
    omega
  · have := hB i hi
    omega
end
end Go.Proofs.Ytjgdjobhhdhfjaa

/-
  The reference of LZMA: settings.
-/
namespace Go.Proofs.Ytjgdjobhhdhfjaa
open Go.RowKit

set_option maxHeartbeats 4000000 in
theorem may_any (a b c d : Int) (w : World) :
    Calls Try.prog 8 #[.agg #[.int .i64 a, .int .i64 b, .int .i64 c, .int .i64 d]] w fun x w' => x = .returned (.bool (maySet a b c d)) ∧ Below w.heap.size w w' := by
  have HB := Lib.hid ((Below.refl w.heap.size w).alloc (Nat.le_refl _) (.cells #[.int .i64 a, .int .i64 b, .int .i64 c, .int .i64 d] 24))
  obtain ⟨v, hv⟩ : ∃ v, v = maySet a b c d := ⟨_, rfl⟩
  rw [← hv]
  unfold maySet at hv
  by_cases h0 : 0 ≤ a
  · have g0 : a ≥ 0 := h0
    by_cases h1 : a ≤ 8
    · have g1 : a ≤ 8 := h1
      by_cases h2 : 0 ≤ b
      · have g2 : b ≥ 0 := h2
        by_cases h3 : b ≤ 4
        · have g3 : b ≤ 4 := h3
          by_cases h4 : 0 ≤ c
          · have g4 : c ≥ 0 := h4
            by_cases h5 : c ≤ 4
            · have g5 : c ≤ 4 := h5
              by_cases h6 : 4096 ≤ d
              · have g6 : d ≥ 4096 := h6
                by_cases h7 : d ≤ 4294967295
                · have g7 : d ≤ 4294967295 := h7
                  obtain rfl : v = true := by rw [hv]; simp; omega
                  clear hv
                  go_enter Try.func8, Try.ntmps8
                  go_wp2_with fail
                  go_ret
                  exact ⟨rfl, HB.out⟩
                · have g7 : ¬ d ≤ 4294967295 := h7
                  obtain rfl : v = false := by rw [hv]; simp; omega
                  clear hv
                  go_enter Try.func8, Try.ntmps8
                  go_upto_region 1 with fail
                  go_step
                  iterate 39 (with_reducible refine wpList_step (fun K hK => ?_); go_simp; (first | (with_reducible refine hK _ _ ?_) | (refine Eq.mpr (if_neg ?_) ?_; (· decide); with_reducible refine hK _ _ ?_)); clear hK K)
                  go_wp2_with fail
                  go_ret
                  exact ⟨rfl, HB.out⟩
              · have g6 : ¬ d ≥ 4096 := h6
                obtain rfl : v = false := by rw [hv]; simp; omega
                clear hv
                go_enter Try.func8, Try.ntmps8
                go_upto_region 1 with fail
                go_step
                iterate 39 (with_reducible refine wpList_step (fun K hK => ?_); go_simp; (first | (with_reducible refine hK _ _ ?_) | (refine Eq.mpr (if_neg ?_) ?_; (· decide); with_reducible refine hK _ _ ?_)); clear hK K)
                go_wp2_with fail
                go_ret
                exact ⟨rfl, HB.out⟩
            · have g5 : ¬ c ≤ 4 := h5
              obtain rfl : v = false := by rw [hv]; simp; omega
              clear hv
              go_enter Try.func8, Try.ntmps8
              go_upto_region 1 with fail
              go_step
              iterate 39 (with_reducible refine wpList_step (fun K hK => ?_); go_simp; (first | (with_reducible refine hK _ _ ?_) | (refine Eq.mpr (if_neg ?_) ?_; (· decide); with_reducible refine hK _ _ ?_)); clear hK K)
              go_wp2_with fail
              go_ret
              exact ⟨rfl, HB.out⟩
          · have g4 : ¬ c ≥ 0 := h4
            obtain rfl : v = false := by rw [hv]; simp; omega
            clear hv
            go_enter Try.func8, Try.ntmps8
            go_upto_region 1 with fail
            go_step
            iterate 39 (with_reducible refine wpList_step (fun K hK => ?_); go_simp; (first | (with_reducible refine hK _ _ ?_) | (refine Eq.mpr (if_neg ?_) ?_; (· decide); with_reducible refine hK _ _ ?_)); clear hK K)
            go_wp2_with fail
            go_ret
            exact ⟨rfl, HB.out⟩
        · have g3 : ¬ b ≤ 4 := h3
          obtain rfl : v = false := by rw [hv]; simp; omega
          clear hv
          go_enter Try.func8, Try.ntmps8
          go_upto_region 1 with fail
          go_step
          iterate 39 (with_reducible refine wpList_step (fun K hK => ?_); go_simp; (first | (with_reducible refine hK _ _ ?_) | (refine Eq.mpr (if_neg ?_) ?_; (· decide); with_reducible refine hK _ _ ?_)); clear hK K)
          go_wp2_with fail
          go_ret
          exact ⟨rfl, HB.out⟩
      · have g2 : ¬ b ≥ 0 := h2
        obtain rfl : v = false := by rw [hv]; simp; omega
        clear hv
        go_enter Try.func8, Try.ntmps8
        go_upto_region 1 with fail
        go_step
        iterate 39 (with_reducible refine wpList_step (fun K hK => ?_); go_simp; (first | (with_reducible refine hK _ _ ?_) | (refine Eq.mpr (if_neg ?_) ?_; (· decide); with_reducible refine hK _ _ ?_)); clear hK K)
        go_wp2_with fail
        go_ret
        exact ⟨rfl, HB.out⟩
    · have g1 : ¬ a ≤ 8 := h1
      obtain rfl : v = false := by rw [hv]; simp; omega
      clear hv
      go_enter Try.func8, Try.ntmps8
      go_upto_region 1 with fail
      go_step
      iterate 39 (with_reducible refine wpList_step (fun K hK => ?_); go_simp; (first | (with_reducible refine hK _ _ ?_) | (refine Eq.mpr (if_neg ?_) ?_; (· decide); with_reducible refine hK _ _ ?_)); clear hK K)
      go_wp2_with fail
      go_ret
      exact ⟨rfl, HB.out⟩
  · have g0 : ¬ a ≥ 0 := h0
    obtain rfl : v = false := by rw [hv]; simp; omega
    clear hv
    go_enter Try.func8, Try.ntmps8
    go_upto_region 1 with fail
    go_step
    iterate 39 (with_reducible refine wpList_step (fun K hK => ?_); go_simp; (first | (with_reducible refine hK _ _ ?_) | (refine Eq.mpr (if_neg ?_) ?_; (· decide); with_reducible refine hK _ _ ?_)); clear hK K)
    go_wp2_with fail
    go_ret
    exact ⟨rfl, HB.out⟩
end Go.Proofs.Ytjgdjobhhdhfjaa

/-
  The reference of LZMA: how many probabilities; a new one.
-/
namespace Go.Proofs.Ytjgdjobhhdhfjaa
open Go.RowKit

end Go.Proofs.Ytjgdjobhhdhfjaa

/-
  The laws' beginning of stage 8, as numbers.
-/
namespace Go.Proofs.Ytjgdjobhhdhfjaa
set_option maxRecDepth 1000000 in
theorem awk_six : unpackN [0, 0, 0, 0, 0, 0] 3 0 2 4096 1 = some [0] := by decide +kernel
set_option maxRecDepth 1000000 in
theorem awk_five : unpackN [0, 0, 0, 0, 0] 3 0 2 4096 1 = none := by decide +kernel
end Go.Proofs.Ytjgdjobhhdhfjaa

/-
  A row of bytes of the call's own, its block named; rows compared.
-/
namespace Go.Proofs.Ytjgdjobhhdhfjaa
open Go.RowKit

/-- Block q holds the bytes bs. -/
def Byt (w : World) (q c : Nat) (bs : List UInt8) : Prop := w.ownsRow 0 5 1 (.slice (some ⟨q, 0, none⟩) bs.length c) bs.length (bv bs)

theorem bv_set (bs : List UInt8) (i : Nat) (y : UInt8) : (bv bs).set i (.int .u8 (y.toNat : Int)) = bv (bs.set i y) := by
  simp [bv, List.map_set]

section
variable {w w' : World} {q c : Nat} {bs : List UInt8}
theorem Byt.cell (h : Byt w q c bs) {i : Nat} (hi : i < bs.length) : w.cell? ⟨q, i, none⟩ = some (.int .u8 ((bs.getD i 0).toNat : Int)) := by
  rw [World.ownsRow.cellAt h i (by omega), bv_get bs i hi]
theorem Byt.free (h : Byt w q c bs) (i : Nat) : w.frozen? ⟨q, i, none⟩ = false := World.ownsRow.frozenAt h i
theorem Byt.put (h : Byt w q c bs) (i : Nat) (y : UInt8) : Byt (w.setCell ⟨q, i, none⟩ (.int .u8 (y.toNat : Int))) q c (bs.set i y) := by
  have := (World.ownsRow.stored h i (.int .u8 (y.toNat : Int))).1
  rw [bv_set] at this
  unfold Byt
  rw [List.length_set]
  exact this
theorem Byt.drewN (h : Byt w q c bs) (n : Nat) : Byt (w.drewN n) q c bs := h
theorem Byt.only {S : Nat → Prop} (h : Byt w q c bs) (hb : Only S w w') (hS : ¬ S q) : Byt w' q c bs := own_only h hb hS
theorem Byt.lt (h : Byt w q c bs) : q < w.heap.size := (World.ownsRow.lt h q rfl).2
theorem Byt.own (h : Byt w q c bs) : w.ownsRow 0 5 1 (.slice (some ⟨q, 0, none⟩) bs.length c) bs.length (bv bs) := h
theorem Byt.sl (h : Byt w q c bs) : Sl w (some ⟨q, 0, none⟩) bs.length (bv bs) := (own_facts h).1
theorem Byt.cap (h : Byt w q c bs) : bs.length ≤ c ∧ c ≤ maxLen := by
  obtain ⟨_, h2, h3, _⟩ := own_facts h
  exact ⟨h2, h3⟩
end

set_option maxHeartbeats 1000000 in
theorem bytesSame_any {A B : Option Addr} {n ca cb : Nat} {bs : List UInt8} {w : World} (hA : Sl w A n (bv bs)) (hB : Sl w B n (bv bs)) (hn : n ≤ 1000000000) :
    Calls Try.prog 20 #[.slice A n ca, .slice B n cb] w fun e w' => e = .returned (.bool true) ∧ ∃ d, w.drewN d = w' := by
  have HA := Lib.hid hA
  have HB := Lib.hid hB
  have hl : bs.length = n := by rw [← bv_length]; exact hA.1
  have HL := Lib.hid hl
  clear hA hB hl
  go_enter Try.func20, Try.ntmps20
  go_wp2_with fail
  go_loopw [5] (fun i wr => ∃ j k : Nat, j ≤ n ∧ i = .int .i64 (j : Int) ∧ wr = w.drewN k) (fun i _ => n - (intOf i).toNat)
  case atStart => exact ⟨0, 0, Nat.zero_le _, rfl, rfl⟩
  case round =>
    obtain ⟨j, k, hj, rfl, rfl⟩ := hrel
    by_cases hlt : j < n
    · obtain ⟨ba, oa, rfl, hba, hca⟩ := HA.out.2 (by omega)
      obtain ⟨bb, ob, rfl, hbb, hcb⟩ := HB.out.2 (by omega)
      have c1 : w.cell? ⟨ba, oa + j, none⟩ = some (.int .u8 ((bs.getD j 0).toNat : Int)) := by rw [hca j hlt, bv_get bs j (by have := HL.out; omega)]
      have c2 : w.cell? ⟨bb, ob + j, none⟩ = some (.int .u8 ((bs.getD j 0).toNat : Int)) := by rw [hcb j hlt, bv_get bs j (by have := HL.out; omega)]
      generalize bs.getD j 0 = x at *
      have i0 : (0 : Int) ≤ (j : Int) := by omega
      have i1 : (j : Int) < (n : Int) := by omega
      clear hca hcb
      go_wp2_with fail
      go_quiet (fail)
      go_wp2_with fail
      go_roundw
      case rel => exact ⟨j + 1, k + nq, by omega, by go_num, rfl⟩
      case measure => simp [intOf]; omega
    · obtain rfl : j = n := by omega
      go_wp2_with fail
      go_ret
      exact ⟨rfl, _, rfl⟩
end Go.Proofs.Ytjgdjobhhdhfjaa

/-
  What the program's LZMA owes where a stream is unpacked; the laws' quota, their setting.
-/
namespace Go.Proofs.Ytjgdjobhhdhfjaa
open Go.RowKit

def muchQ : Quo := ⟨1099511627776, 1099511627776, 1099511627776, 1099511627776, 1099511627776⟩
theorem much_lit : Lit64 muchQ := by constructor <;> dsimp only [muchQ] <;> omega
theorem much_up : muchQ.up = muchQ := by simp [Quo.up, muchQ]; omega
theorem much_fine : Fine muchQ Tel.zero := much_up ▸ Fine.new much_lit
/-- what a stream is, by a setting that may be or not; and its code -/
def lzRes (bs : List UInt8) (a b c d size : Int) : Option (List UInt8) := if maySet a b c d = true then unpackN bs a.toNat b.toNat c.toNat d.toNat size else none
def codeU : Option (List UInt8) → Int
  | none => 12
  | some _ => 0
def lzCode (bs : List UInt8) (a b c d size : Int) : Int := if maySet a b c d = true then codeU (unpackN bs a.toNat b.toNat c.toNat d.toNat size) else 11
/-- what is answered, the meter's memory given back -/
def UpPost (w : World) (m : Nat) (o : Option (List UInt8)) (cd : Int) (x : Ending) (w' : World) : Prop :=
  (∃ t, MeterAt w' 105 m muchQ t ∧ t.mem = 0) ∧ Only (fun i => i = m) w w' ∧ ∃ A c, x = .returned (.tuple #[.slice A (o.getD []).length c, .int .i64 cd]) ∧ Sl w' A (o.getD []).length (bv (o.getD []))
/-- What the program's Unpack owes, under the laws' great quota. -/
structure UpCon : Prop where
  up : ∀ {w A n c m} {bs : List UInt8} {a b cc d size : Int}, n = bs.length → Sl w A n (bv bs) → (0 < n → ∀ q o, A = some ⟨q, o, none⟩ → q ≠ m) → n ≤ 10000000 → MeterAt w 105 m muchQ Tel.zero →
    (maySet a b cc d = true → a + b ≤ 6) → size ≤ 100000 → -9223372036854775808 ≤ size →
    Calls Try.prog 33 #[.slice A n c, .agg #[.int .i64 a, .int .i64 b, .int .i64 cc, .int .i64 d], .int .i64 size, .pointer (some ⟨m, 0, none⟩)] w (UpPost w m (lzRes bs a b cc d size) (lzCode bs a b cc d size))
set_option maxHeartbeats 2000000 in
theorem much_any (w : World) : Calls Try.prog 11 #[] w fun e w' => ∃ g, e = .returned (.pointer (some ⟨g, 0, none⟩)) ∧ MeterAt w' 105 g muchQ Tel.zero ∧ w.heap.size ≤ g ∧ Below w.heap.size w w' := by
  have K := mnew_any muchQ w
  rw [much_up] at K
  have K : Calls Try.prog 23 #[.agg #[.int .i64 1099511627776, .int .i64 1099511627776, .int .i64 1099511627776, .int .i64 1099511627776, .int .i64 1099511627776]] w fun e w' => ∃ g, e = .returned (.pointer (some ⟨g, 0, none⟩)) ∧ MeterAt w' 105 g muchQ Tel.zero ∧ w.heap.size ≤ g ∧ Below w.heap.size w w' := K
  have K := Lib.hid K
  go_enter Try.func11, Try.ntmps11
  go_wp2_with fail
  refine K.out.mono ?_
  rintro e w1 ⟨g, rfl, hM, hg, hb⟩
  have HE := Lib.hid (And.intro hM (And.intro hg hb))
  clear hM hg hb K
  go_wp2_with fail
  go_ret
  exact ⟨g, rfl, HE.out.1, HE.out.2.1, HE.out.2.2⟩
def lightP (a b c d : Int) : Bool := !maySet a b c d || decide (a + b ≤ 6)
set_option maxRecDepth 100000 in
set_option maxHeartbeats 2000000 in
theorem light_any (a b c d : Int) (w : World) :
    Calls Try.prog 9 #[.agg #[.int .i64 a, .int .i64 b, .int .i64 c, .int .i64 d]] w fun x w' => x = .returned (.bool (lightP a b c d)) ∧ Below w.heap.size w w' := by
  obtain ⟨w1, hw1⟩ : ∃ w1, w1 = w.alloc (.cells #[.int .i64 a, .int .i64 b, .int .i64 c, .int .i64 d] 24) := ⟨_, rfl⟩
  have hb1 : Below w.heap.size w w1 := by rw [hw1]; exact (Below.refl _ _).alloc (Nat.le_refl _) _
  have HBk : Blk w1 w.heap.size 24 #[.int .i64 a, .int .i64 b, .int .i64 c, .int .i64 d] := by rw [hw1]; exact Blk.fresh w _ _
  have K := Lib.hid (may_any a b c d w1)
  have d0 : w1.cell? ⟨w.heap.size, 0, none⟩ = some (.int .i64 a) := HBk.cell 0
  have d1 : w1.cell? ⟨w.heap.size, 1, none⟩ = some (.int .i64 b) := HBk.cell 1
  have d2 : w1.cell? ⟨w.heap.size, 2, none⟩ = some (.int .i64 c) := HBk.cell 2
  have d3 : w1.cell? ⟨w.heap.size, 3, none⟩ = some (.int .i64 d) := HBk.cell 3
  have HW1 := Lib.hid hw1
  have HB1 := Lib.hid hb1
  have HBK := Lib.hid HBk
  obtain ⟨v, hv⟩ : ∃ v, v = lightP a b c d := ⟨_, rfl⟩
  rw [← hv]
  unfold lightP at hv
  obtain ⟨mm, hmm⟩ : ∃ mm, mm = maySet a b c d := ⟨_, rfl⟩
  rw [← hmm] at hv K
  have HMM := Lib.hid hmm
  clear hw1 hb1 HBk hmm
  cases mm with
  | false =>
    obtain rfl : v = true := hv
    go_enter Try.func9, Try.ntmps9
    go_upto_region 1 with fail
    rw [← HW1.out]
    clear HW1
    go_wp2_with fail
    refine K.out.mono ?_
    rintro e w2 ⟨rfl, hb2⟩
    have HB2 := Lib.hid (HB1.out.trans ⟨hb2.os, hb2.tape, hb2.output, hb2.size, fun i hi => hb2.block i (Nat.lt_of_lt_of_le hi HB1.out.size)⟩)
    clear hb2 K d0 d1 d2 d3 HB1 HBK
    go_wp2_with fail
    go_ret
    exact ⟨rfl, HB2.out⟩
  | true =>
    obtain ⟨m1, m2, m3, m4, m5⟩ := may_iff.1 HMM.out.symm
    obtain ⟨ab, hab⟩ : ∃ ab, ab = a + b := ⟨_, rfl⟩
    have e1 : IntKind.i64.wrap (a + b) = ab := by rw [hab]; exact IntWalk.i64_in _ (by omega)
    have hv2 : v = decide (ab ≤ 6) := by rw [hab]; exact hv
    have HAB := Lib.hid hab
    clear m1 m2 m3 m4 m5 hab
    have HE1 := Lib.hid e1
    clear e1
    by_cases h6 : ab ≤ 6
    · obtain rfl : v = true := by rw [hv2, decide_eq_true h6]
      have H6 := Lib.hid h6
      clear hv hv2 h6
      go_enter Try.func9, Try.ntmps9
      go_upto_region 1 with fail
      rw [← HW1.out]
      clear HW1
      go_wp2_with fail
      refine K.out.mono ?_
      rintro e w2 ⟨rfl, hb2⟩
      have HB2 := Lib.hid (HB1.out.trans ⟨hb2.os, hb2.tape, hb2.output, hb2.size, fun i hi => hb2.block i (Nat.lt_of_lt_of_le hi HB1.out.size)⟩)
      have hk2 : Blk w2 w.heap.size 24 #[.int .i64 a, .int .i64 b, .int .i64 c, .int .i64 d] := HBK.out.below hb2
      have o0 : w2.cell? ⟨w.heap.size, 0, none⟩ = some (.int .i64 a) := hk2.cell 0
      have o1 : w2.cell? ⟨w.heap.size, 1, none⟩ = some (.int .i64 b) := hk2.cell 1
      have e1 := HE1.out
      have h6 := H6.out
      clear hb2 hk2 K d0 d1 d2 d3 HB1 HBK
      go_wp2_with fail
      go_ret
      exact ⟨rfl, HB2.out⟩
    · obtain rfl : v = false := by rw [hv2, decide_eq_false h6]
      have H6 := Lib.hid h6
      clear hv hv2 h6
      go_enter Try.func9, Try.ntmps9
      go_upto_region 1 with fail
      rw [← HW1.out]
      clear HW1
      go_wp2_with fail
      refine K.out.mono ?_
      rintro e w2 ⟨rfl, hb2⟩
      have HB2 := Lib.hid (HB1.out.trans ⟨hb2.os, hb2.tape, hb2.output, hb2.size, fun i hi => hb2.block i (Nat.lt_of_lt_of_le hi HB1.out.size)⟩)
      have hk2 : Blk w2 w.heap.size 24 #[.int .i64 a, .int .i64 b, .int .i64 c, .int .i64 d] := HBK.out.below hb2
      have o0 : w2.cell? ⟨w.heap.size, 0, none⟩ = some (.int .i64 a) := hk2.cell 0
      have o1 : w2.cell? ⟨w.heap.size, 1, none⟩ = some (.int .i64 b) := hk2.cell 1
      have e1 := HE1.out
      have h6 := H6.out
      clear hb2 hk2 K d0 d1 d2 d3 HB1 HBK
      go_wp2_with fail
      go_ret
      exact ⟨congrArg (fun b => Ending.returned (.bool b)) (decide_eq_false (by have := H6.out; omega)), HB2.out⟩
theorem below_go {w0 w1 w2 : World} {B : Nat} (h : Below B w0 w1) (hb : Below w1.heap.size w1 w2) (hB : B ≤ w0.heap.size) : Below B w0 w2 :=
  h.trans ⟨hb.os, hb.tape, hb.output, hb.size, fun i hi => hb.block i (by have := h.size; omega)⟩
end Go.Proofs.Ytjgdjobhhdhfjaa
