/-
  ZqExt, ZqMem, LzSet, LzNew, BytN, LwPrpN, LzProp, SrcPt: put together.
-/
import Derived.Test.YtoencondpbkomaaGreatDoorT23
import Derived.Test.YtoencondpbkomaaGreatDoorT15
import Derived.Test.YtoencondpbkomaaGreatDoorT08
import Derived.Test.YtoencondpbkomaaGreatDoorT02
import Derived.Deep.Cut
import Derived.Test.YtoencondpbkomaaGreatDoorT04
import Derived.Deep.AppendLies
import Derived.LoopTactic
import Derived.Test.YtoencondpbkomaaGreatDoorT01
import Derived.StillTailTactics
import Derived.Deep.RegionHeld3
import Derived.Deep.QuietTactic
import Derived.BigQuiet
import Derived.IntWalk
import Derived.Lib.Walk
set_option linter.unusedVariables false
set_option linter.unusedSimpArgs false
/-
  LZMA2's chunks as numbers: a packet puts bytes behind those that are there; a packed chunk, byte by byte.
-/
namespace Go.Proofs.YtoencondpbkomaaGreatDoor
set_option linter.unusedVariables false

/-- the same setting, and bytes behind those that were there -/
structure Onw (z z' : Lzs) : Prop where
  lc : z'.lc = z.lc
  lp : z'.lp = z.lp
  pb : z'.pb = z.pb
  dict : z'.dict = z.dict
  out : ∃ s, z'.out = z.out ++ s
theorem Onw.refl (z : Lzs) : Onw z z := ⟨rfl, rfl, rfl, rfl, [], (List.append_nil _).symm⟩
theorem Onw.trans {a b c : Lzs} (h : Onw a b) (h' : Onw b c) : Onw a c := by
  obtain ⟨s, hs⟩ := h.out
  obtain ⟨s', hs'⟩ := h'.out
  exact ⟨h'.lc.trans h.lc, h'.lp.trans h.lp, h'.pb.trans h.pb, h'.dict.trans h.dict, s ++ s', by rw [hs', hs, List.append_assoc]⟩
theorem copyG_onw : ∀ (f n : Nat) (z : Lzs), Onw z (copyG f n z).2
  | 0, _, z => Onw.refl z
  | f + 1, n, z => by
    by_cases h : z.has z.r0 = true
    · rw [copyG_go h]
      exact (show Onw z (z.push (z.back z.r0)) from ⟨rfl, rfl, rfl, rfl, [z.back z.r0], rfl⟩).trans (copyG_onw f (n + 1) (z.push (z.back z.r0)))
    · rw [copyG_stop h]
      exact ⟨rfl, rfl, rfl, rfl, [], (List.append_nil _).symm⟩
theorem tailP_onw {σ : Type} (M : Mach σ) (many : Nat) (z : Lzs) (t : Pm σ) : Onw z (tailP M many z t).2.1 := by
  unfold tailP
  split
  · exact ⟨rfl, rfl, rfl, rfl, [], (List.append_nil _).symm⟩
  · exact copyG_onw _ _ _
theorem packP_onw {σ : Type} (M : Mach σ) (z : Lzs) (t : Pm σ) (p : Pk) : Onw z (packP M z t p).2.1 := by
  unfold packP packK
  generalize kindP M t _ _ _ _ = kb
  split
  · unfold packL
    split
    · exact ⟨rfl, rfl, rfl, rfl, [], (List.append_nil _).symm⟩
    · exact ⟨rfl, rfl, rfl, rfl, [UInt8.ofNat (litP M { z with bad := z.bad || kb.2.1 } kb.2.2 p.byte).1], rfl⟩
  split
  · unfold packM packD
    generalize lenP M kb.2.2 819 _ _ = b at *
    generalize distP M b.2 b.1 _ = dd
    have := tailP_onw M (b.1 + 2) { z with bad := z.bad || kb.2.1, r0 := dd.1, r1 := z.r0, r2 := z.r1, r3 := z.r2, st := aft 7 10 z.st, ended := decide (dd.1 = 4294967295) && !M.bad dd.2.x } dd.2
    exact ⟨this.lc, this.lp, this.pb, this.dict, this.out⟩
  split
  · have := tailP_onw M 1 { z with bad := z.bad || kb.2.1, st := aft 9 11 z.st } kb.2.2
    exact ⟨this.lc, this.lp, this.pb, this.dict, this.out⟩
  · unfold packR
    generalize lenP M kb.2.2 1333 _ _ = b
    have := tailP_onw M (b.1 + 2) { Lzs.again { z with bad := z.bad || kb.2.1 } (kb.1 - 2) with st := aft 8 11 z.st } b.2
    exact ⟨this.lc, this.lp, this.pb, this.dict, this.out⟩
theorem upG_onw {N : Int} : ∀ (f : Nat) {z z2 : Lzs} {t t2 : Pm Dc}, upG N f z t = some (z2, t2) → Onw z z2
  | 0, z, z2, t, t2, h => by
    injection h with h
    injection h with h1 h2
    subst h1
    exact Onw.refl z
  | f + 1, z, z2, t, t2, h => by
    by_cases hl : (z.out.length : Int) < N
    · by_cases hs : stopD N (packP decM z t pk0) = true
      · rw [upG_stop hl hs] at h; cases h
      · rw [upG_go hl hs] at h
        exact (packP_onw decM z t pk0).trans (upG_onw f h)
    · rw [upG_done hl] at h
      injection h with h
      injection h with h1 h2
      subst h1
      exact Onw.refl z

theorem pack_full {zf : Lzs} {tf : Pm Dc} {n l k : Nat} {r : List UInt8} : (St2.pack zf tf n l true r).tells k = match packC l r zf tf (n + l) with
    | none => none
    | some (xs, q') => if xs.length ≤ k then (q'.tells (k - xs.length)).map (xs ++ ·) else none := rfl
theorem packC_xs {n N : Nat} {rest xs : List UInt8} {z : Lzs} {t : Pm Dc} {q' : Rs} (h : packC n rest z t N = some (xs, q')) : xs.length = min n N := by
  unfold packC at h
  split at h
  · cases h
  · split at h
    · rename_i hc
      injection h with h
      injection h with h1 h2
      rw [← h1, List.length_drop, hc.2]
      omega
    · cases h
theorem pack_zero {zf : Lzs} {tf : Pm Dc} {n l : Nat} {full : Bool} {r : List UInt8} (h1 : 1 ≤ l) : (St2.pack zf tf n l full r).tells 0 = none := by
  cases full with
  | false => rfl
  | true =>
    rw [pack_full]
    cases hp : packC l r zf tf (n + l) with
    | none => rfl
    | some p =>
      obtain ⟨xs, q'⟩ := p
      have := packC_xs hp
      show (if xs.length ≤ 0 then _ else _) = _
      rw [if_neg (by omega)]
/-- more than there are to be told are decided: none -/
theorem packC_over {l n : Nat} {r : List UInt8} {zf : Lzs} {tf : Pm Dc} (h : n + l < zf.out.length) : packC l r zf tf (n + l) = none := by
  unfold packC
  rw [upG_done (by omega)]
  show (if leftD tf.x = true ∧ zf.out.length = n + l then _ else _) = _
  rw [if_neg (by omega)]
/-- behind a byte of a packed chunk, of which more are to come -/
theorem packC_next {l n : Nat} {r : List UInt8} {zf : Lzs} {tf : Pm Dc} (hn : n < zf.out.length) (hN : zf.out.length ≤ n + (l + 1)) :
    packC (l + 1) r zf tf (n + (l + 1)) = (packC l r zf tf (n + 1 + l)).map (fun p => (zf.out.getD n 0 :: p.1, p.2)) := by
  have e : n + (l + 1) = n + 1 + l := by omega
  rw [e] at hN ⊢
  unfold packC
  rw [upG_same (l + 1) l (by omega) (by omega)]
  cases hu : upG ((n + 1 + l : Nat) : Int) l zf tf with
  | none => rfl
  | some p =>
    obtain ⟨z2, t2⟩ := p
    obtain ⟨s, hs⟩ := (upG_onw _ hu).out
    show (if leftD t2.x = true ∧ z2.out.length = n + 1 + l then _ else _) = (if leftD t2.x = true ∧ z2.out.length = n + 1 + l then _ else _ : Option _).map _
    by_cases hc : leftD t2.x = true ∧ z2.out.length = n + 1 + l
    · rw [if_pos hc, if_pos hc]
      have e1 : n + 1 + l - (l + 1) = n := by omega
      have e2 : n + 1 + l - l = n + 1 := by omega
      have e3 : z2.out.drop n = zf.out.getD n 0 :: z2.out.drop (n + 1) := by
        rw [List.drop_eq_getElem_cons (by omega)]
        congr 1
        rw [List.getD_eq_getElem?_getD, List.getElem?_eq_getElem hn]
        show z2.out[n] = zf.out[n]
        simp only [hs]
        rw [List.getElem_append_left hn]
      show some (z2.out.drop (n + 1 + l - (l + 1)), (⟨0, z2, t2.ps, r⟩ : Rs)) = some (zf.out.getD n 0 :: z2.out.drop (n + 1 + l - l), ⟨0, z2, t2.ps, r⟩)
      rw [e1, e2, e3]
    · rw [if_neg hc, if_neg hc]
      rfl
theorem packC_packet {l n : Nat} {r : List UInt8} {zf : Lzs} {tf : Pm Dc} (hn : n = zf.out.length) (hs : ¬ stopP (packP decM zf tf pk0)) :
    packC (l + 1) r zf tf (n + (l + 1)) = if (packP decM zf tf pk0).2.1.out.length ≤ n + (l + 1) then packC (l + 1) r (packP decM zf tf pk0).2.1 (packP decM zf tf pk0).2.2 (n + (l + 1)) else none := by
  have hd := stop_not (N := ((n + (l + 1) : Nat) : Int)) hs
  have hl : (zf.out.length : Int) < ((n + (l + 1) : Nat) : Int) := by omega
  by_cases h : (packP decM zf tf pk0).2.1.out.length ≤ n + (l + 1)
  · rw [if_pos h]
    rw [decide_eq_false (by omega)] at hd
    have hm := pack_more hd
    unfold packC
    rw [upG_go hl (by rw [hd]; decide), upG_same l (l + 1) (by omega) (by omega)]
  · rw [if_neg h]
    rw [decide_eq_true (by omega)] at hd
    unfold packC
    rw [upG_stop hl hd]
theorem packC_stop {l n : Nat} {r : List UInt8} {zf : Lzs} {tf : Pm Dc} (hn : n = zf.out.length) (hs : stopP (packP decM zf tf pk0)) : packC (l + 1) r zf tf (n + (l + 1)) = none := by
  have hl : (zf.out.length : Int) < ((n + (l + 1) : Nat) : Int) := by omega
  unfold packC
  rw [upG_stop hl (stop_of hs)]
/-- a byte of a packed chunk is told: what is decided then is zf', tf' -/
theorem pack_step {zf zf' : Lzs} {tf tf' : Pm Dc} {n l : Nat} {full : Bool} {r : List UInt8}
    (h : (n < zf.out.length ∧ zf' = zf ∧ tf' = tf) ∨ (n = zf.out.length ∧ ¬ stopP (packP decM zf tf pk0) ∧ zf' = (packP decM zf tf pk0).2.1 ∧ tf' = (packP decM zf tf pk0).2.2)) (hn : n < zf'.out.length) (k : Nat) :
    (St2.pack zf tf n (l + 1) full r).tells (k + 1) = ((St2.pack zf' tf' (n + 1) l full r).tells k).map (zf'.out.getD n 0 :: ·) := by
  cases full with
  | false => rfl
  | true =>
    have key : packC (l + 1) r zf tf (n + (l + 1)) = (packC l r zf' tf' (n + 1 + l)).map (fun p => (zf'.out.getD n 0 :: p.1, p.2)) := by
      rcases h with ⟨h1, rfl, rfl⟩ | ⟨h1, h2, rfl, rfl⟩
      · by_cases ho : zf'.out.length ≤ n + (l + 1)
        · exact packC_next h1 ho
        · rw [packC_over (by omega), packC_over (by omega)]
          rfl
      · rw [packC_packet h1 h2]
        by_cases ho : (packP decM zf tf pk0).2.1.out.length ≤ n + (l + 1)
        · rw [if_pos ho]
          exact packC_next hn ho
        · rw [if_neg ho, packC_over (by omega)]
          rfl
    rw [pack_full, pack_full, key]
    cases packC l r zf' tf' (n + 1 + l) with
    | none => rfl
    | some p =>
      obtain ⟨xs, q'⟩ := p
      show (if (zf'.out.getD n 0 :: xs).length ≤ k + 1 then (q'.tells (k + 1 - (zf'.out.getD n 0 :: xs).length)).map ((zf'.out.getD n 0 :: xs) ++ ·) else none) = (if xs.length ≤ k then (q'.tells (k - xs.length)).map (xs ++ ·) else none : Option _).map _
      rw [List.length_cons]
      by_cases hk : xs.length ≤ k
      · rw [if_pos (by omega), if_pos hk, map_cons, show k + 1 - (xs.length + 1) = k - xs.length by omega]
      · rw [if_neg (by omega), if_neg hk]
        rfl
/-- a packed chunk at its end -/
theorem pack_done {zf : Lzs} {tf : Pm Dc} {n k : Nat} {r : List UInt8} (h : leftD tf.x = true ∧ zf.out.length = n) : (St2.pack zf tf n 0 true r).tells k = (St2.rest ⟨0, zf, tf.ps, r⟩).tells k := by
  rw [pack_full]
  have e : packC 0 r zf tf (n + 0) = some ([], ⟨0, zf, tf.ps, r⟩) := by
    unfold packC
    rw [upG_done (by omega)]
    show (if leftD tf.x = true ∧ zf.out.length = n + 0 then _ else _) = _
    rw [if_pos ⟨h.1, by omega⟩, show n + 0 - 0 = zf.out.length by omega, List.drop_length]
  rw [e]
  show (if 0 ≤ k then ((Rs.tells _ (k - 0)).map _) else none) = _
  rw [if_pos (Nat.zero_le _), map_nil]
  rfl
theorem pack_undone {zf : Lzs} {tf : Pm Dc} {n k : Nat} {r : List UInt8} (h : ¬ (leftD tf.x = true ∧ zf.out.length = n)) (hn : n ≤ zf.out.length) : (St2.pack zf tf n 0 true r).tells k = none := by
  rw [pack_full]
  have e : packC 0 r zf tf (n + 0) = none := by
    unfold packC
    rw [upG_done (by omega)]
    show (if leftD tf.x = true ∧ zf.out.length = n + 0 then _ else _) = _
    rw [if_neg (by rw [Nat.add_zero]; exact h)]
  rw [e]
theorem pack_halt {zf : Lzs} {tf : Pm Dc} {n l k : Nat} {full : Bool} {r : List UInt8} (hn : n = zf.out.length) (hs : stopP (packP decM zf tf pk0)) : (St2.pack zf tf n (l + 1) full r).tells k = none := by
  cases full with
  | false => rfl
  | true => rw [pack_full, packC_stop hn hs]
end Go.Proofs.YtoencondpbkomaaGreatDoor

/-
  The decoder of LZMA2 in memory, packed chunks too.
-/
namespace Go.Proofs.YtoencondpbkomaaGreatDoor
open Go.RowKit
set_option linter.unusedVariables false

/-- the same decoder of packets: its blocks, its window, its room -/
structure Ks (K K' : Kon) : Prop where
  g : K'.g = K.g
  lb : K'.lb = K.lb
  wg : K'.wg = K.wg
  m : K'.m = K.m
  room : K'.room = K.room
  sz : K'.sz = K.sz
  nc : K'.nc = K.nc
theorem Ks.refl (K : Kon) : Ks K K := ⟨rfl, rfl, rfl, rfl, rfl, rfl, rfl⟩
theorem Ks.trans {K K' K2 : Kon} (h : Ks K K') (h' : Ks K' K2) : Ks K K2 :=
  ⟨h'.g.trans h.g, h'.lb.trans h.lb, h'.wg.trans h.wg, h'.m.trans h.m, h'.room.trans h.room, h'.sz.trans h.sz, h'.nc.trans h.nc⟩
theorem Ks.on (K : Kon) (dg : Nat) (S : Sc) (bs : List UInt8) : Ks K (K.on dg S bs) := ⟨rfl, rfl, rfl, rfl, rfl, rfl, rfl⟩
theorem Ks.less (K : Kon) (n : Nat) (d : Int) : Ks K (K.less n d) := ⟨rfl, rfl, rfl, rfl, rfl, rfl, rfl⟩

/-- where all lies: the decoder's block d, its source's block f whose row lies from lo on, the window's blocks Gw, what a packed chunk has besides (its source, its decoder of ranges); the table of what a chunk brings -/
structure Q2x (K0 : Kon) (d f lo : Nat) (w : World) (Gw ex : Nat → Prop) : Prop where
  gl : 1 ≤ K0.g ∧ K0.g < lo
  ll : 1 ≤ K0.lb ∧ K0.lb < lo
  ml : K0.m < lo
  dl : 1 ≤ d ∧ d < lo
  lf : lo ≤ f
  fs : f < w.heap.size
  dg : d ≠ K0.g ∧ d ≠ K0.lb ∧ d ≠ K0.m
  wd : ∀ i, Gw i → 1 ≤ i ∧ i ≠ d ∧ (i < lo ∨ f < i)
  ex : ∀ i, ex i → f < i ∧ i < w.heap.size
  sz : K0.sz ≤ 1048576
  nc : K0.nc = 12288
  tab : ∀ how, how < 4 → w.cell? ⟨0, how, none⟩ = some (.int .u8 (bringN how : Int))
/-- all that a call may turn -/
def own2 (K0 : Kon) (d f : Nat) (Gw ex : Nat → Prop) : Nat → Prop := fun i => i = d ∨ i = f ∨ i = K0.g ∨ i = K0.lb ∨ Gw i ∨ ex i
/-- no packed chunk's bytes are told: its fields and what its source has left; its decoder of packets at rest -/
structure Idl (K0 : Kon) (d f lo : Nat) (all : List UInt8) (w : World) (Gw : Nat → Prop) (s : Ds) (r : List UInt8) (z : Lzs) (ps : List Nat) : Prop where
  rd : Rdr w d K0.g f lo all ⟨s, r, []⟩
  rs : ∃ K v4 v5 v16 v17 v18, Ks K0 K ∧ Lrest K w Gw z ps v4 v5 v16 v17 v18
/-- the numbers between two chunks are in order -/
structure Rok (D : Nat) (q : Rs) : Prop where
  nd : q.nd = 0 ∨ q.nd = 6 ∨ q.nd = 7
  near : ZNear q.z q.ps.length q.z.out.length
  ps : PsOk q.ps
  bad : q.z.bad = false
  ended : q.z.ended = false
  dict : q.z.dict = D
  four : q.z.lc + q.z.lp ≤ 4
/-- the setting's field is the one brought last, where none needs be brought -/
def setAt (q : Rs) (s : Ds) : Prop := s.nd = q.nd ∧ (q.nd = 0 → s.a0 = (q.z.lc : Int) ∧ s.a1 = (q.z.lp : Int) ∧ s.a2 = (q.z.pb : Int))
/-- the decoder, wherever it stands -/
def Q2 (K0 : Kon) (d f lo : Nat) (all : List UInt8) (D : Nat) (w : World) (Gw ex : Nat → Prop) : St2 → Prop
  | .bad => ∃ s r z ps, Idl K0 d f lo all w Gw s r z ps ∧ s.src = false ∧ s.left = 0
  | .fin r => ∃ s z ps, Idl K0 d f lo all w Gw s r z ps ∧ s.src = true ∧ s.ended = true ∧ s.left = 0
  | .rest q => ∃ s, Idl K0 d f lo all w Gw s q.r q.z q.ps ∧ s.src = true ∧ s.ended = false ∧ s.left = 0 ∧ setAt q s ∧ Rok D q
  | .plain q l => ∃ s, Idl K0 d f lo all w Gw s q.r q.z q.ps ∧ s.src = true ∧ s.ended = false ∧ s.left = l ∧ s.pk = none ∧ 1 ≤ l ∧ l ≤ 65536 ∧ q.nd % 2 = 0 ∧ setAt q s ∧ Rok D q
  | .pack zf tf n l full r => ∃ K s p a m, Ks K0 K ∧ Blk w d 105 (d2Cells K0.g f s) ∧ s.src = true ∧ s.ended = false ∧ s.nd = 0 ∧ s.left = l ∧ s.pk = some p ∧ 1 ≤ l ∧ l ≤ 2097152 ∧
      (s.a0 = (zf.lc : Int) ∧ s.a1 = (zf.lp : Int) ∧ s.a2 = (zf.pb : Int)) ∧ K.S = pkSc p f lo all a m ∧ K.bs = (all.drop a).take m ∧ full = decide (a + m ≤ all.length) ∧ r = all.drop (a + m) ∧
      Nx K w Gw zf tf n ∧ zf.dict = D ∧ zf.lc + zf.lp ≤ 4 ∧ ex p ∧ ex K.dg ∧ f < p
/-- what a call answers and leaves -/
def Q2Post (K0 : Kon) (d f lo : Nat) (all : List UInt8) (D : Nat) (w : World) (Gw ex : Nat → Prop) (v : Value) (st : St2) (e : Ending) (w' : World) : Prop :=
  e = .returned v ∧ ∃ Gw' ex', Q2 K0 d f lo all D w' Gw' ex' st ∧ Q2x K0 d f lo w' Gw' ex' ∧ (∀ i, Gw' i ∨ ex' i → (Gw i ∨ ex i) ∨ w.heap.size ≤ i) ∧ Only (own2 K0 d f Gw ex) w w'

section
variable {K0 K : Kon} {d f lo D : Nat} {all r : List UInt8} {w w' : World} {Gw ex S : Nat → Prop} {s s' : Ds} {z : Lzs} {ps : List Nat} {v4 v5 v16 v17 v18 : Value}
theorem Lrest.only (h : Lrest K w Gw z ps v4 v5 v16 v17 v18) (hO : Only S w w') (h1 : ¬ S K.g) (h2 : ¬ S K.lb) (h3 : ∀ i, Gw i → ¬ S i) : Lrest K w' Gw z ps v4 v5 v16 v17 v18 :=
  ⟨(K.prb _ h.gn).only h.row hO (fun i hi hs => by rcases hi with rfl | rfl; exact h1 hs; exact h2 hs), h.win.only hO h3, h.gn, h.mg, h.mb, h.nc, h.wd, Nat.lt_of_lt_of_le h.mo hO.size⟩
theorem Q2x.only (h : Q2x K0 d f lo w Gw ex) (hO : Only S w w') (hS : ¬ S 0) : Q2x K0 d f lo w' Gw ex := by
  refine ⟨h.gl, h.ll, h.ml, h.dl, h.lf, Nat.lt_of_lt_of_le h.fs hO.size, h.dg, h.wd, fun i hi => ⟨(h.ex i hi).1, Nat.lt_of_lt_of_le (h.ex i hi).2 hO.size⟩, h.sz, h.nc, fun how hh => ?_⟩
  rw [hO.cell (p := ⟨0, how, none⟩) (by have := h.fs; have := h.lf; have := h.dl; show 0 < _; omega) hS]
  exact h.tab how hh
theorem Q2x.own0 (h : Q2x K0 d f lo w Gw ex) : ¬ own2 K0 d f Gw ex 0 := by
  have h1 := h.gl
  have h2 := h.ll
  have h3 := h.dl
  have h4 := h.lf
  rintro (e | e | e | e | e | e)
  · omega
  · omega
  · omega
  · omega
  · have := (h.wd 0 e).1; omega
  · have := (h.ex 0 e).1; omega
/-- other blocks of the window, or of a packed chunk -/
theorem Q2x.turn {Gw' ex' : Nat → Prop} (h : Q2x K0 d f lo w Gw ex) (hG : ∀ i, Gw' i → Gw i ∨ w.heap.size ≤ i) (hE : ∀ i, ex' i → f < i ∧ i < w'.heap.size) (hO : Only S w w') (hS : ¬ S 0) : Q2x K0 d f lo w' Gw' ex' := by
  have := h.only hO hS
  have h3 := h.dl
  have h4 := h.lf
  have h5 := h.fs
  refine ⟨this.gl, this.ll, this.ml, this.dl, this.lf, this.fs, this.dg, fun i hi => ?_, hE, this.sz, this.nc, this.tab⟩
  rcases hG i hi with hh | hh
  · exact h.wd i hh
  · omega
/-- its own fields and its source turn -/
theorem Idl.read (hx : Q2x K0 d f lo w Gw ex) (h : Idl K0 d f lo all w Gw s r z ps) {r' : List UInt8} (hR : Rdr w' d K0.g f lo all ⟨s', r', []⟩) (hO : Only (fun i => i = d ∨ i = f) w w') : Idl K0 d f lo all w' Gw s' r' z ps := by
  obtain ⟨K, v4, v5, v16, v17, v18, hk, hr⟩ := h.rs
  have h1 := hx.gl
  have h2 := hx.ll
  have h3 := hx.dl
  have h4 := hx.lf
  have h5 := hx.dg
  refine ⟨hR, K, v4, v5, v16, v17, v18, hk, hr.only hO ?_ ?_ (fun i hi => ?_)⟩
  · rw [hk.g]; rintro (e | e) <;> omega
  · rw [hk.lb]; rintro (e | e) <;> omega
  · have := hx.wd i hi
    rintro (e | e) <;> omega
theorem own_df (K0 : Kon) (d f : Nat) (Gw ex : Nat → Prop) : ∀ i, (i = d ∨ i = f) → own2 K0 d f Gw ex i := fun i h => h.elim .inl (fun e => .inr (.inl e))
theorem df0 (hx : Q2x K0 d f lo w Gw ex) : ¬ (0 = d ∨ 0 = f) := by
  have h3 := hx.dl
  have h4 := hx.lf
  omega
end
end Go.Proofs.YtoencondpbkomaaGreatDoor

/-
  The reference of LZMA: settings.
-/
namespace Go.Proofs.YtoencondpbkomaaGreatDoor
open Go.RowKit

end Go.Proofs.YtoencondpbkomaaGreatDoor

/-
  The reference of LZMA: how many probabilities; a new one.
-/
namespace Go.Proofs.YtoencondpbkomaaGreatDoor
open Go.RowKit

end Go.Proofs.YtoencondpbkomaaGreatDoor

/-
  A row of bytes of the call's own, its block named; rows compared.
-/
namespace Go.Proofs.YtoencondpbkomaaGreatDoor
open Go.RowKit

/-- Block q holds the bytes bs. -/
def Byt (w : World) (q c : Nat) (bs : List UInt8) : Prop := w.ownsRow 0 5 1 (.slice (some ⟨q, 0, none⟩) bs.length c) bs.length (bv bs)

theorem bv_set (bs : List UInt8) (i : Nat) (y : UInt8) : (bv bs).set i (.int .u8 (y.toNat : Int)) = bv (bs.set i y) := by
  simp [bv, List.map_set]

section
variable {w w' : World} {q c : Nat} {bs : List UInt8}
theorem Byt.cell (h : Byt w q c bs) {i : Nat} (hi : i < bs.length) : w.cell? ⟨q, i, none⟩ = some (.int .u8 ((bs.getD i 0).toNat : Int)) := by
  rw [World.ownsRow.cellAt h i (by omega), bv_get bs i hi]
theorem Byt.free (h : Byt w q c bs) (i : Nat) : w.frozen? ⟨q, i, none⟩ = false := World.ownsRow.frozenAt h i
theorem Byt.put (h : Byt w q c bs) (i : Nat) (y : UInt8) : Byt (w.setCell ⟨q, i, none⟩ (.int .u8 (y.toNat : Int))) q c (bs.set i y) := by
  have := (World.ownsRow.stored h i (.int .u8 (y.toNat : Int))).1
  rw [bv_set] at this
  unfold Byt
  rw [List.length_set]
  exact this
theorem Byt.drewN (h : Byt w q c bs) (n : Nat) : Byt (w.drewN n) q c bs := h
theorem Byt.only {S : Nat → Prop} (h : Byt w q c bs) (hb : Only S w w') (hS : ¬ S q) : Byt w' q c bs := own_only h hb hS
theorem Byt.lt (h : Byt w q c bs) : q < w.heap.size := (World.ownsRow.lt h q rfl).2
theorem Byt.own (h : Byt w q c bs) : w.ownsRow 0 5 1 (.slice (some ⟨q, 0, none⟩) bs.length c) bs.length (bv bs) := h
theorem Byt.sl (h : Byt w q c bs) : Sl w (some ⟨q, 0, none⟩) bs.length (bv bs) := (own_facts h).1
theorem Byt.cap (h : Byt w q c bs) : bs.length ≤ c ∧ c ≤ maxLen := by
  obtain ⟨_, h2, h3, _⟩ := own_facts h
  exact ⟨h2, h3⟩
end

set_option maxHeartbeats 1000000 in
theorem bytesSame_any {A B : Option Addr} {n ca cb : Nat} {bs : List UInt8} {w : World} (hA : Sl w A n (bv bs)) (hB : Sl w B n (bv bs)) (hn : n ≤ 1000000000) :
    Calls Tryz.prog 11 #[.slice A n ca, .slice B n cb] w fun e w' => e = .returned (.bool true) ∧ ∃ d, w.drewN d = w' := by
  have HA := Lib.hid hA
  have HB := Lib.hid hB
  have hl : bs.length = n := by rw [← bv_length]; exact hA.1
  have HL := Lib.hid hl
  clear hA hB hl
  go_enter Tryz.func11, Tryz.ntmps11
  go_wp2_with fail
  go_loopw [5] (fun i wr => ∃ j k : Nat, j ≤ n ∧ i = .int .i64 (j : Int) ∧ wr = w.drewN k) (fun i _ => n - (intOf i).toNat)
  case atStart => exact ⟨0, 0, Nat.zero_le _, rfl, rfl⟩
  case round =>
    obtain ⟨j, k, hj, rfl, rfl⟩ := hrel
    by_cases hlt : j < n
    · obtain ⟨ba, oa, rfl, hba, hca⟩ := HA.out.2 (by omega)
      obtain ⟨bb, ob, rfl, hbb, hcb⟩ := HB.out.2 (by omega)
      have c1 : w.cell? ⟨ba, oa + j, none⟩ = some (.int .u8 ((bs.getD j 0).toNat : Int)) := by rw [hca j hlt, bv_get bs j (by have := HL.out; omega)]
      have c2 : w.cell? ⟨bb, ob + j, none⟩ = some (.int .u8 ((bs.getD j 0).toNat : Int)) := by rw [hcb j hlt, bv_get bs j (by have := HL.out; omega)]
      generalize bs.getD j 0 = x at *
      have i0 : (0 : Int) ≤ (j : Int) := by omega
      have i1 : (j : Int) < (n : Int) := by omega
      clear hca hcb
      go_wp2_with fail
      go_quiet (fail)
      go_wp2_with fail
      go_roundw
      case rel => exact ⟨j + 1, k + nq, by omega, by go_num, rfl⟩
      case measure => simp [intOf]; omega
    · obtain rfl : j = n := by omega
      go_wp2_with fail
      go_ret
      exact ⟨rfl, _, rfl⟩
end Go.Proofs.YtoencondpbkomaaGreatDoor

/-
  A setting's properties, as bytes.
-/
namespace Go.Proofs.YtoencondpbkomaaGreatDoor
open Go.RowKit

/-- a setting's properties -/
def propsOf (lc lp pb dict : Nat) : List UInt8 := [UInt8.ofNat (45 * pb + 9 * lp + lc), UInt8.ofNat (dict % 256), UInt8.ofNat (dict / 256 % 256), UInt8.ofNat (dict / 65536 % 256), UInt8.ofNat (dict / 16777216)]
def PropsIs (w : World) (ys : List UInt8) (x : Ending) (w' : World) : Prop :=
  ∃ A c, x = .returned (.slice A ys.length c) ∧ Sl w' A ys.length (bv ys) ∧ Below w.heap.size w w'

end Go.Proofs.YtoencondpbkomaaGreatDoor

/-
  The reference of LZMA: properties.
-/
namespace Go.Proofs.YtoencondpbkomaaGreatDoor
open Go.RowKit

/-- what five bytes say -/
def parseOf (bs : List UInt8) : Option (Nat × Nat × Nat × Nat) :=
  match bs with
  | [a, b, c, d, e] => if a.toNat < 225 then some (a.toNat % 9, a.toNat / 9 % 5, a.toNat / 45, max 4096 (b.toNat + 256 * c.toNat + 65536 * d.toNat + 16777216 * e.toNat)) else none
  | _ => none

/-- what parsing answers: the setting, the code -/
def ParsePost (w : World) (o : Option (Nat × Nat × Nat × Nat)) (x : Ending) (w' : World) : Prop :=
  Below w.heap.size w w' ∧ ((o = none ∧ x = .returned (.tuple #[.agg #[.int .i64 0, .int .i64 0, .int .i64 0, .int .i64 0], .int .i64 11])) ∨
    ∃ lc lp pb dict : Nat, o = some (lc, lp, pb, dict) ∧ x = .returned (.tuple #[.agg #[.int .i64 (lc : Int), .int .i64 (lp : Int), .int .i64 (pb : Int), .int .i64 (dict : Int)], .int .i64 0]))

theorem parse_short {bs : List UInt8} (h : bs.length ≠ 5) : parseOf bs = none := by
  unfold parseOf
  split
  · exact absurd rfl h
  · rfl

end Go.Proofs.YtoencondpbkomaaGreatDoor

/-
  Numbers that are put (cut out of SrcCur).
-/
namespace Go.Proofs.YtoencondpbkomaaGreatDoor
open Go.RowKit

set_option maxHeartbeats 400000 in
theorem isSize_any (n : Int) (w : World) :
    Calls Tryz.prog 171 #[.int .i64 n] w fun e w' => e = .returned (.bool (decide (n = 1 ∨ n = 2 ∨ n = 4 ∨ n = 8))) ∧ w = w' := by
  go_enter Tryz.func171, Tryz.ntmps171
  go_wp2
  all_goals
    go_ret
    exact ⟨ret_bool (by first | (simp [*]; done) | (rw [Bool.eq_iff_iff]; simp [*])), rfl⟩

/-- a number of a size as bytes -/
def putM (size : Int) (v : Nat) : List UInt8 := if size = 1 ∨ size = 2 ∨ size = 4 ∨ size = 8 then leBytes size.toNat v else []

end Go.Proofs.YtoencondpbkomaaGreatDoor
