/-
  LwUp: put together.
-/
import Derived.Test.YtjgdjobhhdhfjaaPa31
set_option linter.unusedVariables false
set_option linter.unusedSimpArgs false
/-
  The program's Unpack: what stands between two bytes.
-/
namespace Go.Proofs.Ytjgdjobhhdhfjaa
open Go.RowKit

/-- fuel that is enough is enough -/
theorem upG_fuel {size : Int} : ∀ (f g : Nat) (z : Lzs) (t : Pm Dc), size.toNat ≤ z.out.length + f → size.toNat ≤ z.out.length + g → upG size f z t = upG size g z t
  | f, g, z, t, hf, hg => by
    by_cases h : (z.out.length : Int) < size
    · obtain ⟨f', rfl⟩ : ∃ f', f = f' + 1 := ⟨f - 1, by omega⟩
      obtain ⟨g', rfl⟩ : ∃ g', g = g' + 1 := ⟨g - 1, by omega⟩
      by_cases hs : stopD size (packP decM z t pk0) = true
      · rw [upG_stop h hs, upG_stop h hs]
      · rw [upG_go h hs, upG_go h hs]
        have hm := pack_more (size := size) (z := z) (t := t) (by simpa using hs)
        exact upG_fuel f' g' _ _ (by omega) (by omega)
    · rw [upG_done h, upG_done h]
/-- what is to come of it -/
def resN (size : Int) (zf : Lzs) (tf : Pm Dc) : Option (List UInt8) := if size.toNat < zf.out.length then none else finU (upG size (size.toNat - zf.out.length) zf tf)
theorem resN_next {size : Int} {zf : Lzs} {tf : Pm Dc} (h : (zf.out.length : Int) < size) (hs : ¬ stopP (packP decM zf tf pk0)) : resN size zf tf = resN size (packP decM zf tf pk0).2.1 (packP decM zf tf pk0).2.2 := by
  obtain ⟨f, hf⟩ : ∃ f, size.toNat - zf.out.length = f + 1 := ⟨size.toNat - zf.out.length - 1, by omega⟩
  unfold resN
  rw [if_neg (by omega), hf]
  obtain ⟨r, hr⟩ : ∃ r, r = packP decM zf tf pk0 := ⟨_, rfl⟩
  have hx : r.2.2.x ≠ none := fun e => hs (hr ▸ .inl e)
  have hb : r.2.1.bad = false := by
    cases h : r.2.1.bad with
    | false => rfl
    | true => exact absurd (hr ▸ Or.inr (Or.inl h)) hs
  have he : r.2.1.ended = false := by
    cases h : r.2.1.ended with
    | false => rfl
    | true => exact absurd (hr ▸ Or.inr (Or.inr h)) hs
  have hst : stopD size r = decide (size < (r.2.1.out.length : Int)) := by
    unfold stopD
    rw [hb, he, live_bad hx]
    rfl
  rw [← hr]
  by_cases hl : size.toNat < r.2.1.out.length
  · rw [if_pos hl, upG_stop h (by rw [← hr, hst]; exact decide_eq_true (by omega))]
    rfl
  · have hn : ¬ stopD size r = true := by rw [hst]; simp; omega
    rw [if_neg hl, upG_go h (by rw [← hr]; exact hn)]
    rw [← hr]
    have hm := pack_more (size := size) (z := zf) (t := tf) (by rw [← hr]; simpa using hn)
    rw [← hr] at hm
    rw [upG_fuel f (size.toNat - r.2.1.out.length) _ _ (by omega) (by omega)]
theorem resN_stop {size : Int} {zf : Lzs} {tf : Pm Dc} (h : (zf.out.length : Int) < size) (hs : stopP (packP decM zf tf pk0)) : resN size zf tf = none := by
  obtain ⟨f, hf⟩ : ∃ f, size.toNat - zf.out.length = f + 1 := ⟨size.toNat - zf.out.length - 1, by omega⟩
  unfold resN
  rw [if_neg (by omega), hf, upG_stop h]
  · rfl
  · unfold stopD
    rcases hs with hs | hs | hs
    · rw [dead_bad hs]; simp
    · rw [hs]; rfl
    · rw [hs]; simp
theorem resN_end {size : Int} {zf : Lzs} {tf : Pm Dc} {n : Nat} {b : Bool} (hn : n ≤ size.toNat) (hs : ¬ (n : Int) < size) (hl : n ≤ zf.out.length) (h1 : n < zf.out.length → b = false) (h2 : n = zf.out.length → finD zf tf = if b = true then some zf.out else none) : resN size zf tf = if b = true then some (zf.out.take n) else none := by
  unfold resN
  by_cases hlt : n < zf.out.length
  · rw [h1 hlt, if_pos (by omega)]
    rfl
  · obtain rfl : n = zf.out.length := by omega
    rw [if_neg (by omega), upG_done hs, List.take_length]
    exact h2 rfl
theorem resN_start {size : Int} {lc lp pb dict : Nat} {bs : List UInt8} : unpackN bs lc lp pb dict size = resN size (Lzs.start lc lp pb dict) ⟨List.replicate (probsN lc lp) 1024, started bs⟩ := by
  unfold unpackN resN
  have h0 : (Lzs.start lc lp pb dict).out.length = 0 := rfl
  rw [h0, if_neg (Nat.not_lt_zero _), Nat.sub_zero]

section
variable {K : Kon} {w w' : World} {Gw S : Nat → Prop} {zf : Lzs} {tf : Pm Dc} {n : Nat}
theorem Nx.only (h : Nx K w Gw zf tf n) (hO : Only S w w') (h1 : ∀ i, S i → K.dg < i) (h2 : ∀ i, Gw i → ¬ S i) : Nx K w' Gw zf tf n := by
  have hlo := h.lw.mch.pd.lo
  have hap := h.lw.ap
  refine ⟨⟨⟨h.lw.mch.pd.only hO (fun i hi => .inr (h1 i hi)), (K.prb _ hap.gn).only h.lw.mch.row hO (fun i hi hs => ?_), h.lw.mch.ok⟩, h.lw.win.only hO h2, hap⟩, h.le, h.far, h.near, h.live, h.bad, h.ended, h.tell⟩
  have := h1 i hs
  have a1 := hap.gl
  have a2 := hap.ll
  rcases hi with rfl | rfl
  · omega
  · omega
theorem Apart.meter (h : Apart K Gw) (hp : K.lo ≤ K.f ∧ K.f < K.dg) : ¬ K.all Gw K.m := by
  rintro ((e | e | e | e) | e)
  · have := h.ml; omega
  · have := h.ml; omega
  · exact h.mg e
  · exact h.mb e
  · exact (h.wd _ e).2.2.1 rfl

/-- what stands between two bytes: n of them are in the row that v is -/
structure Inv (K : Kon) (B : Nat) (w : World) (size : Int) (dict : Nat) (res : Option (List UInt8)) (q : Quo) (t : Tel) (v : Value) (wr : World) (n : Nat) (zf : Lzs) (tf : Pm Dc) (Gw : Nat → Prop) : Prop where
  nx : Nx K wr Gw zf tf n
  own : wr.ownsRow B 5 1 v n (bv (zf.out.take n))
  far : ∀ b, v.ownBlock = some b → ¬ Gw b
  le : n ≤ size.toNat
  res : res = resN size zf tf
  fit : zf.dict = dict
  mt : MeterAt wr 105 K.m q t
  only : Only (fun i => i = K.m) w wr
  gm : ∀ i, Gw i → w.heap.size ≤ i
  low : w.heap.size ≤ K.g ∧ w.heap.size ≤ K.lb ∧ w.heap.size ≤ K.lo ∧ K.dg < B
  bot : B ≤ wr.heap.size

/-- a byte has been told, it isn't put yet -/
structure Mid (K : Kon) (B : Nat) (w : World) (size : Int) (dict : Nat) (res : Option (List UInt8)) (q : Quo) (t : Tel) (v : Value) (wr : World) (n : Nat) (zf : Lzs) (tf : Pm Dc) (Gw : Nat → Prop) : Prop where
  nx : Nx K wr Gw zf tf (n + 1)
  own : wr.ownsRow B 5 1 v n (bv (zf.out.take n))
  far : ∀ b, v.ownBlock = some b → ¬ Gw b
  le : n + 1 ≤ size.toNat
  res : res = resN size zf tf
  fit : zf.dict = dict
  mt : MeterAt wr 105 K.m q t
  only : Only (fun i => i = K.m) w wr
  gm : ∀ i, Gw i → w.heap.size ≤ i
  low : w.heap.size ≤ K.g ∧ w.heap.size ≤ K.lb ∧ w.heap.size ≤ K.lo ∧ K.dg < B
  bot : B ≤ wr.heap.size
end

theorem own_at {w : World} {base : Nat} {e : TypeId} {v : Value} {n : Nat} {xs : List Value} (h : w.ownsRow base e 1 v n xs) {b : Nat} (hb : v.ownBlock = some b) : base ≤ b ∧ b < w.heap.size := by
  rcases h.2 with ⟨rfl, _⟩ | ⟨g, cap, cur, rfl, h1, h2, _⟩
  · cases hb
  · injection hb with hb
    subst hb
    exact ⟨h1, (Array.getElem?_eq_some_iff.1 h2).1⟩
theorem own_onlyV {w w' : World} {S : Nat → Prop} {base : Nat} {e : TypeId} {v : Value} {n : Nat} {xs : List Value} (h : w.ownsRow base e 1 v n xs) (hO : Only S w w') (hS : ∀ b, v.ownBlock = some b → ¬ S b) : w'.ownsRow base e 1 v n xs := by
  refine ⟨h.1, ?_⟩
  rcases h.2 with hn | ⟨g, cap, cur, rfl, hb, hgg, rest⟩
  · exact .inl hn
  · refine .inr ⟨g, cap, cur, rfl, hb, ?_, rest⟩
    rw [hO.block g (Array.getElem?_eq_some_iff.1 hgg).1 (hS g rfl)]
    exact hgg

section
variable {K : Kon} {w wr w6 w7 : World} {Gw Gw' : Nat → Prop} {zf zf' : Lzs} {tf tf' : Pm Dc} {n B dict : Nat} {size : Int} {res : Option (List UInt8)} {q : Quo} {t : Tel} {v v' : Value} {o : Obj}
theorem Inv.told (h : Inv K B w size dict res q t v wr n zf tf Gw) (hlt : (n : Int) < size) (hN : Nx K w6 Gw' zf' tf' (n + 1)) (hd : zf'.dict = zf.dict) (ht : zf'.out.take n = zf.out.take n)
    (hc : (n < zf.out.length ∧ zf' = zf ∧ tf' = tf) ∨ (n = zf.out.length ∧ ¬ stopP (packP decM zf tf pk0) ∧ zf' = (packP decM zf tf pk0).2.1 ∧ tf' = (packP decM zf tf pk0).2.2))
    (hG : ∀ i, Gw' i → Gw i ∨ wr.heap.size ≤ i) (hO : Only (K.all Gw) wr w6) : Mid K B w size dict res q t v w6 n zf' tf' Gw' := by
  have hlo := h.nx.lw.mch.pd.lo
  have hap := h.nx.lw.ap
  obtain ⟨l1, l2, l3, l4⟩ := h.low
  have hsz := h.only.size
  have hall : ∀ b, v.ownBlock = some b → ¬ K.all Gw b := by
    intro b hb hk
    have h1 := (own_at h.own hb).1
    have a1 := hap.gl
    have a2 := hap.ll
    rcases hk with (e | e | e | e) | e
    · omega
    · omega
    · omega
    · omega
    · exact h.far b hb e
  refine ⟨hN, by rw [ht]; exact own_onlyV h.own hO hall, fun b hb hg => ?_, by omega, ?_, hd.trans h.fit, h.mt.only hO (hap.meter hlo), h.only.trans' hO (fun i hi => .inr ?_), fun i hi => ?_, h.low, Nat.le_trans h.bot hO.size⟩
  · rcases hG b hg with h1 | h1
    · exact h.far b hb h1
    · have := (own_at h.own hb).2
      omega
  · rcases hc with ⟨_, rfl, rfl⟩ | ⟨rfl, hs, rfl, rfl⟩
    · exact h.res
    · rw [h.res]
      exact resN_next hlt hs
  · rcases hi with (e | e | e | e) | e
    · omega
    · omega
    · omega
    · omega
    · exact h.gm i e
  · rcases hG i hi with h1 | h1
    · exact h.gm i h1
    · omega
theorem Mid.put (h : Mid K B w size dict res q t v w6 n zf tf Gw) (ho : w7.ownsRow B 5 1 v' (n + 1) (bv (zf.out.take n) ++ [.int .u8 ((zf.out.getD n 0).toNat : Int)])) (hg : (w6.alloc o).grownBy w7 v.ownBlock) (hv : v'.ownBlock = v.ownBlock ∨ v'.ownBlock = some (w6.alloc o).heap.size) :
    Inv K B w size dict res q t v' w7 (n + 1) zf tf Gw := by
  have hlo := h.nx.lw.mch.pd.lo
  have hap := h.nx.lw.ap
  obtain ⟨l1, l2, l3, l4⟩ := h.low
  have hle := h.nx.le
  have hsz := h.only.size
  have hO : Only (fun i => v.ownBlock = some i) w6 w7 := by
    have h1 : Only (fun i => v.ownBlock = some i) w6 (w6.alloc o) := (Only.refl _ w6).alloc _
    refine h1.trans ⟨hg.os, hg.tape, hg.output, hg.size, fun i hi hn => hg.block i hi (fun e => hn e.symm)⟩
  have hB : ∀ i, v.ownBlock = some i → B ≤ i := fun i hi => (own_at h.own hi).1
  refine ⟨h.nx.only hO (fun i hi => by have := hB i hi; omega) (fun i hi hs => h.far i hs hi), ?_, fun b hb hgw => ?_, h.le, h.res, h.fit, h.mt.only hO (fun e => ?_), h.only.trans' hO (fun i hi => .inr ?_), h.gm, h.low, Nat.le_trans h.bot hO.size⟩
  · rw [take_snoc8 _ _ (by omega), bv_append]
    exact ho
  · rcases hv with e | e
    · exact h.far b (e ▸ hb) hgw
    · rw [e] at hb
      injection hb with hb
      have h1 := h.nx.lw.win.old hgw
      have h2 : (w6.alloc o).heap.size = w6.heap.size + 1 := by simp
      omega
  · have h1 := hB _ e
    have := hap.ml
    omega
  · have := hB i hi
    omega
end
end Go.Proofs.Ytjgdjobhhdhfjaa
