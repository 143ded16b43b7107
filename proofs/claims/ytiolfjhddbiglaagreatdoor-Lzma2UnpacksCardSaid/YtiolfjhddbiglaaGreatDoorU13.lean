/-
  PkLike, LqUp, LwShort, LqMemN: put together.
-/
import Derived.Test.YtiolfjhddbiglaaGreatDoorU02
import Derived.Test.YtiolfjhddbiglaaGreatDoorU09
set_option linter.unusedVariables false
set_option linter.unusedSimpArgs false
/-
  What a packet keeps of a decoder's numbers.
-/
namespace Go.Proofs.YtiolfjhddbiglaaGreatDoor

theorem copyG_like : ∀ (f n : Nat) (z : Lzs), Like z (copyG f n z).2
  | 0, _, z => Like.refl z
  | f + 1, n, z => by
    by_cases h : z.has z.r0 = true
    · rw [copyG_go h]
      have := copyG_like f (n + 1) (z.push (z.back z.r0))
      exact ⟨this.lc, this.lp, this.pb, this.dict⟩
    · rw [copyG_stop h]
      exact ⟨rfl, rfl, rfl, rfl⟩
theorem tailP_like {σ : Type} (M : Mach σ) (many : Nat) (z : Lzs) (t : Pm σ) : Like z (tailP M many z t).2.1 := by
  unfold tailP
  split
  · exact ⟨rfl, rfl, rfl, rfl⟩
  · exact copyG_like _ _ _
theorem packP_like {σ : Type} (M : Mach σ) (z : Lzs) (t : Pm σ) (p : Pk) : Like z (packP M z t p).2.1 := by
  unfold packP packK
  generalize kindP M t _ _ _ _ = kb
  split
  · unfold packL
    split
    · exact ⟨rfl, rfl, rfl, rfl⟩
    · exact ⟨rfl, rfl, rfl, rfl⟩
  split
  · unfold packM packD
    have := tailP_like M (((lenP M kb.2.2 819 (z.out.length % 2 ^ z.pb) (if p.kind = 7 then 0 else p.len - 2))).1 + 2)
    generalize lenP M kb.2.2 819 _ _ = b at *
    generalize distP M b.2 b.1 _ = dd
    have := this { z with bad := z.bad || kb.2.1, r0 := dd.1, r1 := z.r0, r2 := z.r1, r3 := z.r2, st := aft 7 10 z.st, ended := decide (dd.1 = 4294967295) && !M.bad dd.2.x } dd.2
    exact ⟨this.lc, this.lp, this.pb, this.dict⟩
  split
  · have := tailP_like M 1 { z with bad := z.bad || kb.2.1, st := aft 9 11 z.st } kb.2.2
    exact ⟨this.lc, this.lp, this.pb, this.dict⟩
  · unfold packR
    generalize lenP M kb.2.2 1333 _ _ = b
    have := tailP_like M (b.1 + 2) { Lzs.again { z with bad := z.bad || kb.2.1 } (kb.1 - 2) with st := aft 8 11 z.st } b.2
    exact ⟨this.lc, this.lp, this.pb, this.dict⟩
theorem stop_ok {size : Int} {r : Nat × Lzs × Pm Dc} (h : stopD size r = false) : r.2.1.bad = false ∧ r.2.1.ended = false := by
  unfold stopD at h
  revert h
  cases r.2.1.bad <;> cases r.2.1.ended <;> simp
end Go.Proofs.YtiolfjhddbiglaaGreatDoor

/-
  The program's Unpack of LZMA2, where all chunks are plain: what stands between two bytes.
-/
namespace Go.Proofs.YtiolfjhddbiglaaGreatDoor
open Go.RowKit

/-- a new stream over a new decoder -/
def q0 (bs : List UInt8) : Lq := (⟨ds0, [], []⟩ : Lq).begun bs
/-- what stands between two bytes: out are in the row that v is, pre were told -/
structure Inv2 (K : Kon) (d f lo : Nat) (bs : List UInt8) (fs : List Value) (ps : List Nat) (B : Nat) (w : World) (size : Int) (res : Option (List UInt8)) (t : Tel) (v : Value) (wr : World) (out pre : List UInt8) (q : Lq) (Gw : Nat → Prop) : Prop where
  l2 : L2 K d f lo bs fs ps wr Gw q
  mid : q.Mid
  ol : q.o.length ≤ pre.length
  own : wr.ownsRow B 5 1 v out.length (bv out)
  far : ∀ b, v.ownBlock = some b → ¬ Gw b
  le : pre.length ≤ size.toNat
  res : res = (Lq.go (size.toNat - pre.length) q).map (pre ++ ·)
  flat : Lq.Flats (size.toNat - pre.length) q
  mt : MeterAt wr 83 K.m muchQ t
  only : Only (fun i => i = K.m) w wr
  gm : ∀ i, Gw i → w.heap.size ≤ i
  low : w.heap.size ≤ K.g ∧ w.heap.size ≤ d ∧ w.heap.size ≤ lo
  up : K.g < B ∧ d < B ∧ f < B ∧ K.m < w.heap.size
  bot : B ≤ wr.heap.size

section
variable {K : Kon} {d f lo B : Nat} {bs : List UInt8} {fs : List Value} {ps : List Nat} {w wr w6 w7 : World} {size : Int} {res : Option (List UInt8)} {t : Tel} {v v' : Value} {out pre : List UInt8} {q q' : Lq} {Gw Gw' : Nat → Prop} {x : UInt8} {o : Obj}
theorem L2.meter (h : L2 K d f lo bs fs ps wr Gw q) : ¬ qOwn K d f Gw K.m := by
  rintro (e | e | e | e)
  · exact h.dg.2.2 e.symm
  · have := h.ml; have := h.rd.ff; omega
  · exact h.rz.mg e
  · exact (h.rz.wd _ e).2.2 rfl
theorem Inv2.far' (h : Inv2 K d f lo bs fs ps B w size res t v wr out pre q Gw) : ∀ b, v.ownBlock = some b → ¬ qOwn K d f Gw b := by
  intro b hb hk
  have h1 := (own_at h.own hb).1
  obtain ⟨u1, u2, u3, u4⟩ := h.up
  rcases hk with e | e | e | e
  · omega
  · omega
  · omega
  · exact h.far b hb e
theorem Inv2.new' (h : Inv2 K d f lo bs fs ps B w size res t v wr out pre q Gw) : ∀ i, qOwn K d f Gw i → w.heap.size ≤ i := by
  intro i hk
  obtain ⟨u1, u2, u3⟩ := h.low
  have := h.l2.rd.ff
  rcases hk with e | e | e | e
  · omega
  · omega
  · omega
  · exact h.gm i e
theorem Inv2.told (h : Inv2 K d f lo bs fs ps B w size res t v wr out out q Gw) (hlt : (out.length : Int) < size) (hn : q.next.1 = some x) (hL : L2 K d f lo bs fs ps w6 Gw' q.next.2) (hG : ∀ i, Gw' i → Gw i ∨ wr.heap.size ≤ i) (hO : Only (qOwn K d f Gw) wr w6) :
    Inv2 K d f lo bs fs ps B w size res t v w6 out (out ++ [x]) q.next.2 Gw' := by
  obtain ⟨n, hnn⟩ : ∃ n, size.toNat - out.length = n + 1 := ⟨size.toNat - out.length - 1, by omega⟩
  have hn1 : size.toNat - (out ++ [x]).length = n := by simp; omega
  have hsz := h.only.size
  refine ⟨hL, next_mid h.mid, ?_, own_onlyV h.own hO h.far', fun b hb hg => ?_, by simp; omega, ?_, ?_, h.mt.only hO h.l2.meter, h.only.trans' hO (fun i hi => .inr (h.new' i hi)), fun i hi => ?_, h.low, h.up, Nat.le_trans h.bot hO.size⟩
  · have := next_o (q := q)
    have := h.ol
    simp
    omega
  · rcases hG b hg with h1 | h1
    · exact h.far b hb h1
    · have := (own_at h.own hb).2
      omega
  · rw [h.res, hnn, hn1, go_some hn]
    cases Lq.go n q.next.2 <;> simp
  · have := h.flat
    rw [hnn] at this
    rw [hn1]
    exact this.2 x hn
  · rcases hG i hi with h1 | h1
    · exact h.gm i h1
    · omega
theorem Inv2.put (h : Inv2 K d f lo bs fs ps B w size res t v w6 out (out ++ [x]) q Gw) (ho : w7.ownsRow B 5 1 v' (out.length + 1) (bv out ++ [.int .u8 (x.toNat : Int)])) (hg : (w6.alloc o).grownBy w7 v.ownBlock) (hv : v'.ownBlock = v.ownBlock ∨ v'.ownBlock = some (w6.alloc o).heap.size) :
    Inv2 K d f lo bs fs ps B w size res t v' w7 (out ++ [x]) (out ++ [x]) q Gw := by
  have hsz := h.only.size
  have hO : Only (fun i => v.ownBlock = some i) w6 w7 := by
    have h1 : Only (fun i => v.ownBlock = some i) w6 (w6.alloc o) := (Only.refl _ w6).alloc _
    refine h1.trans ⟨hg.os, hg.tape, hg.output, hg.size, fun i hi hn => hg.block i hi (fun e => hn e.symm)⟩
  have hB : ∀ i, v.ownBlock = some i → B ≤ i := fun i hi => (own_at h.own hi).1
  obtain ⟨u1, u2, u3, u4⟩ := h.up
  obtain ⟨l1, l2, l3⟩ := h.low
  have hR := h.l2.rd.only hO (fun e => by have := hB _ e; omega) (fun i hi => .inr (by have := hB _ hi; omega))
  have hZ := h.l2.rz.only hO (fun e => by have := hB _ e; omega) (fun e => by have := hB _ e; have := h.l2.ll; have := h.l2.rd.ff; omega) (fun i hi hs => h.far i hs hi)
  refine ⟨⟨hR, hZ, h.l2.gl, h.l2.ll, h.l2.ml, h.l2.dg, h.l2.wd, h.l2.fo.imp (fun hh => Nat.lt_of_lt_of_le hh hO.size) id⟩, h.mid, h.ol, ?_, fun b hb hgw => ?_, h.le, h.res, h.flat, h.mt.only hO (fun e => ?_), h.only.trans' hO (fun i hi => .inr ?_), h.gm, h.low, h.up, Nat.le_trans h.bot hO.size⟩
  · rw [bv_append, List.length_append]
    exact ho
  · rcases hv with e | e
    · exact h.far b (e ▸ hb) hgw
    · rw [e] at hb
      injection hb with hb
      have h1 := h.l2.rz.win.old hgw
      have h2 : (w6.alloc o).heap.size = w6.heap.size + 1 := by simp
      omega
  · have h1 := hB _ e
    omega
  · have := hB i hi
    omega

end
end Go.Proofs.YtiolfjhddbiglaaGreatDoor

/-
  The program's decoder of LZMA, where the quota is too small.
-/
namespace Go.Proofs.YtiolfjhddbiglaaGreatDoor
open Go.RowKit

/-- what New answers if it doesn't get its memory -/
def ShortPost (w : World) (m : Nat) (q : Quo) (t' : Tel) (e : Ending) (w' : World) : Prop :=
  e = .returned (.tuple #[.pointer none, .int .i64 t'.code]) ∧ MeterAt w' 83 m q t' ∧ Only (fun i => i = m) w w'

end Go.Proofs.YtiolfjhddbiglaaGreatDoor

/-
  The meter's numbers where a decoder of LZMA2 is made and closed.
-/
namespace Go.Proofs.YtiolfjhddbiglaaGreatDoor
open Go.RowKit


/-- a quota of memory alone -/
def memQ (mem : Int) : Quo := ⟨mem, 0, 0, 0, 0⟩
section
variable {q : Quo} {W P : Int}
end
theorem dict_set {p : Nat} (hp : p ≤ 40) : SetOk 4 0 0 (dictN p) := ⟨by omega, by omega, by omega, (dict_le hp).1, (dict_le hp).2⟩
/-- a closed one -/
structure Sh2 (K : Kon) (d f lo : Nat) (w : World) (q : Quo) (pk : Int) (B : Nat) (fs : List Value) (ps : List Nat) (G : Nat → Prop) (sd : Ds) : Prop where
  at_ : LzAt w K.g fs ps
  f6 : fs[6]? = some (.pointer (some ⟨K.wg, 0, none⟩))
  f7 : fs[7]? = some (.pointer (some ⟨K.m, 0, none⟩))
  f8 : fs[8]? = some (.int .i64 0)
  win : Pwin w K.wg G K.m ⟨K.sz, [], true⟩
  mt : MeterAt w 83 K.m q ⟨0, pk, 0, 0, 0, 0, 0⟩
  blk : Blk w d 105 (d2Cells K.g f sd)
  src : sd.src = false
  nd : sd.nd < 256
  ap : ¬ G K.m ∧ ¬ G K.g ∧ K.m ≠ K.g ∧ d ≠ K.g ∧ d ≠ K.m ∧ ¬ G d
  low : (∀ i, G i → B ≤ i) ∧ B ≤ K.g ∧ B ≤ K.m ∧ B ≤ d ∧ B ≤ w.heap.size
  lo : d < lo ∧ lo ≤ f ∧ B ≤ f

section
variable {K : Kon} {d f lo : Nat} {w w' : World} {q : Quo} {pk : Int} {B : Nat} {fs : List Value} {ps : List Nat} {G : Nat → Prop} {sd : Ds}
theorem Sh2.quiet (h : Sh2 K d f lo w q pk B fs ps G sd) (hO : Only (fun _ => False) w w') : Sh2 K d f lo w' q pk B fs ps G sd :=
  ⟨h.at_.only hO (fun h => h), h.f6, h.f7, h.f8, h.win.only hO (fun _ _ h => h), h.mt.only hO (fun h => h), h.blk.only hO (fun h => h), h.src, h.nd, h.ap, ⟨h.low.1, h.low.2.1, h.low.2.2.1, h.low.2.2.2.1, Nat.le_trans h.low.2.2.2.2 hO.size⟩, h.lo⟩
end
end Go.Proofs.YtiolfjhddbiglaaGreatDoor
