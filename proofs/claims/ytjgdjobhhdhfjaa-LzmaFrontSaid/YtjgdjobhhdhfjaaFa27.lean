/-
  LzFront, LwTwo, LzAwake: put together.
-/
import Derived.Test.YtjgdjobhhdhfjaaFa23
import Derived.Test.YtjgdjobhhdhfjaaFa26
import Derived.Test.YtjgdjobhhdhfjaaFa25
import Derived.Deep.RegionLaw
import Derived.Deep.Cut
set_option linter.unusedVariables false
set_option linter.unusedSimpArgs false
/-
  A decoder over a stream's beginning tells what the one over the whole tells, or falls bad: numbers.
-/
namespace Go.Proofs.Ytjgdjobhhdhfjaa
open Go.RowKit

/-- the one has a row more behind it -/
def MoreBy (m : List UInt8) (d d' : Dc) : Prop := ∃ r c s, d = some (r, c, s ++ m) ∧ d' = some (r, c, s)
theorem lvl_front (m : List UInt8) (r c : Nat) (s : List UInt8) : lvl r c s = none ∨ MoreBy m (lvl r c (s ++ m)) (lvl r c s) := by
  unfold lvl
  by_cases h : r < 16777216
  · rw [if_pos h, if_pos h]
    cases s with
    | nil => exact .inl rfl
    | cons x t => exact .inr ⟨r * 256, c * 256 + x.toNat, t, rfl, rfl⟩
  · rw [if_neg h, if_neg h]
    exact .inr ⟨r, c, s, rfl, rfl⟩
theorem bit_front {m : List UInt8} {d d' : Dc} (p : Nat) (h : MoreBy m d d') : (bitD d' p).2.2 = none ∨ ((bitD d' p).1 = (bitD d p).1 ∧ (bitD d' p).2.1 = (bitD d p).2.1 ∧ MoreBy m (bitD d p).2.2 (bitD d' p).2.2) := by
  obtain ⟨r, c, s, rfl, rfl⟩ := h
  show (if c < r / 2048 * p then _ else _ : Nat × Nat × Dc).2.2 = none ∨ _
  by_cases hc : c < r / 2048 * p
  · have e1 : bitD (some (r, c, s)) p = (0, up0 p, lvl (r / 2048 * p) c s) := by show (if _ then _ else _) = _; rw [if_pos hc]
    have e2 : bitD (some (r, c, s ++ m)) p = (0, up0 p, lvl (r / 2048 * p) c (s ++ m)) := by show (if _ then _ else _) = _; rw [if_pos hc]
    show (bitD (some (r, c, s)) p).2.2 = none ∨ _
    rw [e1, e2]
    rcases lvl_front m (r / 2048 * p) c s with h | h
    · exact .inl h
    · exact .inr ⟨rfl, rfl, h⟩
  · have e1 : bitD (some (r, c, s)) p = match lvl (r - r / 2048 * p) (c - r / 2048 * p) s with | none => (0, up1 p, none) | some t => (1, up1 p, some t) := by show (if _ then _ else _) = _; rw [if_neg hc]; rfl
    have e2 : bitD (some (r, c, s ++ m)) p = match lvl (r - r / 2048 * p) (c - r / 2048 * p) (s ++ m) with | none => (0, up1 p, none) | some t => (1, up1 p, some t) := by show (if _ then _ else _) = _; rw [if_neg hc]; rfl
    show (bitD (some (r, c, s)) p).2.2 = none ∨ _
    rw [e1, e2]
    rcases lvl_front m (r - r / 2048 * p) (c - r / 2048 * p) s with h | ⟨r', c', s', h1, h2⟩
    · rw [h]; exact .inl rfl
    · rw [h1, h2]
      exact .inr ⟨rfl, rfl, r', c', s', rfl, rfl⟩
theorem one_front {m : List UInt8} {d d' : Dc} (h : MoreBy m d d') : (oneD d').2 = none ∨ ((oneD d').1 = (oneD d).1 ∧ MoreBy m (oneD d).2 (oneD d').2) := by
  obtain ⟨r, c, s, rfl, rfl⟩ := h
  by_cases hc : c < r / 2
  · have e1 : oneD (some (r, c, s)) = (0, lvl (r / 2) c s) := by show (if _ then _ else _) = _; rw [if_pos hc]
    have e2 : oneD (some (r, c, s ++ m)) = (0, lvl (r / 2) c (s ++ m)) := by show (if _ then _ else _) = _; rw [if_pos hc]
    rw [e1, e2]
    rcases lvl_front m (r / 2) c s with h | h
    · exact .inl h
    · exact .inr ⟨rfl, h⟩
  · by_cases h2 : c - r / 2 < r / 2
    · have e1 : oneD (some (r, c, s)) = (1, lvl (r / 2) (c - r / 2) s) := by show (if _ then _ else _) = _; rw [if_neg hc, if_pos h2]
      have e2 : oneD (some (r, c, s ++ m)) = (1, lvl (r / 2) (c - r / 2) (s ++ m)) := by show (if _ then _ else _) = _; rw [if_neg hc, if_pos h2]
      rw [e1, e2]
      rcases lvl_front m (r / 2) (c - r / 2) s with h | h
      · exact .inl h
      · exact .inr ⟨rfl, h⟩
    · left
      show (if _ then _ else _ : Nat × Dc).2 = none
      rw [if_neg hc, if_neg h2]
theorem go_gone (n : Nat) : (straightGo none n).2 = none := by
  induction n with
  | zero => rfl
  | succ n ih => show (oneD (straightGo none n).2).2 = none; rw [ih]; rfl
theorem go_front {m : List UInt8} {d d' : Dc} (h : MoreBy m d d') : ∀ n, (straightGo d' n).2 = none ∨ ((straightGo d' n).1 = (straightGo d n).1 ∧ MoreBy m (straightGo d n).2 (straightGo d' n).2)
  | 0 => .inr ⟨rfl, h⟩
  | n + 1 => by
    rcases go_front h n with h1 | ⟨h1, h2⟩
    · left
      show (oneD (straightGo d' n).2).2 = none
      rw [h1]; rfl
    · rcases one_front h2 with h3 | ⟨h3, h4⟩
      · exact .inl h3
      · right
        refine ⟨?_, h4⟩
        show 2 * (straightGo d' n).1 + (oneD (straightGo d' n).2).1 = 2 * (straightGo d n).1 + (oneD (straightGo d n).2).1
        rw [h1, h3]
theorem front_simu (m : List UInt8) : Simu decM okD decM (MoreBy m) (fun _ => True) (fun d => d = none) where
  okm := decM_ok
  bit := by
    intro x d k p w w' _ _ _ h _
    exact bit_front p h
  str := by
    intro x d k n v v' _ _ _ h _
    rcases go_front h n with h1 | ⟨h1, h2⟩
    · exact .inl h1
    · right
      have hn : (straightGo x n).2 ≠ none := by obtain ⟨r, c, s, e, _⟩ := h2; rw [e]; intro h; cases h
      have hn' : (straightGo d n).2 ≠ none := by obtain ⟨r, c, s, _, e⟩ := h2; rw [e]; intro h; cases h
      refine ⟨?_, h2⟩
      show (if (straightGo d n).2 = none then 0 else (straightGo d n).1) = (if (straightGo x n).2 = none then 0 else (straightGo x n).1)
      rw [if_neg hn, if_neg hn', h1]
  fbit := fun _ _ _ _ => trivial
  fstr := fun _ _ => trivial
  dbit := by
    rintro d p w rfl
    rfl
  dstr := by
    rintro d n v rfl
    exact go_gone n
  same := by
    rintro x d ⟨r, c, s, rfl, rfl⟩
    rfl


/-- a packet over the beginning that doesn't stop: the same over the whole -/
theorem front_pack {m : List UInt8} {L N : Nat} {z : Lzs} {t u : Pm Dc} (hz : ZNear z L N) (ht : PmOk okD L 27 t) (hr : Sm (MoreBy m) t u) (hs : ¬ stopP (packP decM z u pk0)) :
    ¬ stopP (packP decM z t pk0) ∧ (packP decM z t pk0).2.1 = (packP decM z u pk0).2.1 ∧ Sm (MoreBy m) (packP decM z t pk0).2.2 (packP decM z u pk0).2.2 := by
  rcases (packP_sim (front_simu m) (u := u) (p' := pk0) (k := 0) hz ht pk0_fine (pk0_may _) trivial).2 (.inr hr) with h | ⟨g1, g2, g3⟩
  · exact absurd (.inl h) hs
  · have hx : (packP decM z t pk0).2.2.x ≠ none := by
      obtain ⟨_, r, c, s, e, _⟩ := g3
      rw [e]
      intro h
      cases h
    refine ⟨?_, g2.symm, g3⟩
    rintro (h | h | h)
    · exact hx h
    · exact hs (.inr (.inl (by rw [g2]; exact h)))
    · exact hs (.inr (.inr (by rw [g2]; exact h)))
/-- two beginnings -/
theorem front_start {m bs : List UInt8} (h : started bs ≠ none) : MoreBy m (started (bs ++ m)) (started bs) := by
  match bs, h with
  | z :: a :: b :: c :: d :: t, h =>
    by_cases hc : z.toNat = 0 ∧ ((a.toNat * 256 + b.toNat) * 256 + c.toNat) * 256 + d.toNat < 4294967295
    · have e1 : started (z :: a :: b :: c :: d :: t) = some (4294967295, ((a.toNat * 256 + b.toNat) * 256 + c.toNat) * 256 + d.toNat, t) := if_pos hc
      have e2 : started ((z :: a :: b :: c :: d :: t) ++ m) = some (4294967295, ((a.toNat * 256 + b.toNat) * 256 + c.toNat) * 256 + d.toNat, t ++ m) := if_pos hc
      exact ⟨_, _, _, e2, e1⟩
    · exact absurd (if_neg hc) h
end Go.Proofs.Ytjgdjobhhdhfjaa

/-
  Two decoders side by side: a call on the one leaves the other.
-/
namespace Go.Proofs.Ytjgdjobhhdhfjaa
open Go.RowKit

/-- what a decoder is not -/
def Off (K : Kon) (Gw S : Nat → Prop) : Prop := ∀ i, S i → (i < K.lo ∨ K.dg < i) ∧ i ≠ K.g ∧ i ≠ K.lb ∧ ¬ Gw i
section
variable {K K1 K2 : Kon} {w w' : World} {Gw S G1 G2 G1' G2' : Nat → Prop} {zf z1 z2 : Lzs} {tf t1 t2 : Pm Dc} {n n1 n2 : Nat}
theorem Nx.off (h : Nx K w Gw zf tf n) (hO : Only S w w') (hs : Off K Gw S) : Nx K w' Gw zf tf n :=
  ⟨⟨⟨h.lw.mch.pd.only hO (fun i hi => (hs i hi).1), (K.prb _ h.lw.ap.gn).only h.lw.mch.row hO (fun i hi e => by rcases hi with rfl | rfl; exact (hs _ e).2.1 rfl; exact (hs _ e).2.2.1 rfl), h.lw.mch.ok⟩,
    h.lw.win.only hO (fun i hi e => (hs i e).2.2.2 hi), h.lw.ap⟩, h.le, h.far, h.near, h.live, h.bad, h.ended, h.tell⟩
theorem Nx.old (h : Nx K w Gw zf tf n) : K.g < w.heap.size ∧ K.lb < w.heap.size ∧ K.lo ≤ K.f ∧ K.f < K.dg ∧ K.dg < w.heap.size ∧ ∀ i, Gw i → i < w.heap.size :=
  ⟨h.lw.mch.row.1.lt, h.lw.mch.row.2.1.lt, h.lw.mch.pd.lo.1, h.lw.mch.pd.lo.2, h.lw.mch.pd.lt, fun _ hi => h.lw.win.old hi⟩
structure Two (K1 K2 : Kon) (G1 G2 : Nat → Prop) : Prop where
  a : Off K1 G1 (K2.all G2)
  b : Off K2 G2 (K1.all G1)
theorem Two.one (h : Two K1 K2 G1 G2) (x1 : Nx K1 w G1 z1 t1 n1) (x2 : Nx K2 w G2 z2 t2 n2) (hN : ∀ i, G1' i → G1 i ∨ w.heap.size ≤ i) : Two K1 K2 G1' G2 := by
  obtain ⟨o1, o2, o3, o4, o5, o6⟩ := x2.old
  refine ⟨fun i hi => ?_, fun i hi => ?_⟩
  · obtain ⟨a1, a2, a3, a4⟩ := h.a i hi
    refine ⟨a1, a2, a3, fun e => ?_⟩
    rcases hN i e with e | e
    · exact a4 e
    · rcases hi with (hi | hi | hi | hi) | hi
      · omega
      · omega
      · omega
      · omega
      · have := o6 i hi; omega
  · rcases hi with hi | hi
    · exact h.b i (.inl hi)
    · rcases hN i hi with e | e
      · exact h.b i (.inr e)
      · exact ⟨.inr (by omega), by omega, by omega, fun g => by have := o6 i g; omega⟩
theorem Two.swap (h : Two K1 K2 G1 G2) : Two K2 K1 G2 G1 := ⟨h.b, h.a⟩

/-- the byte that is told over the beginning is told over the whole -/
theorem two_next {m : List UInt8} (x1 : Nx K1 w G1 zf t1 n) (x2 : Nx K2 w' G2 zf t2 n) (hs : t1.x = none ∨ Sm (MoreBy m) t2 t1)
    {zf' : Lzs} {t1' : Pm Dc} (h : (n < zf.out.length ∧ zf' = zf ∧ t1' = t1) ∨ (n = zf.out.length ∧ ¬ stopP (packP decM zf t1 pk0) ∧ zf' = (packP decM zf t1 pk0).2.1 ∧ t1' = (packP decM zf t1 pk0).2.2)) :
    Sm (MoreBy m) t2 t1 ∧ (n < zf.out.length ∨ (n = zf.out.length ∧ ¬ stopP (packP decM zf t2 pk0) ∧ (packP decM zf t2 pk0).2.1 = zf' ∧ Sm (MoreBy m) (packP decM zf t2 pk0).2.2 t1')) := by
  have hsm : Sm (MoreBy m) t2 t1 := by
    rcases hs with e | e
    · exfalso
      rcases h with ⟨h1, _, _⟩ | ⟨_, h2, _⟩
      · exact x1.live h1 e
      · exact h2 (.inl (packP_none e))
    · exact e
  refine ⟨hsm, ?_⟩
  rcases h with ⟨h1, _, _⟩ | ⟨h1, h2, rfl, rfl⟩
  · exact .inl h1
  · obtain ⟨g1, g2, g3⟩ := front_pack x2.near (okD_any x2.lw.mch.ok) hsm h2
    exact .inr ⟨h1, g1, g2, g3⟩
end

/-- two decoders between two bytes -/
structure Pair (K1 K2 : Kon) (m : List UInt8) (dict : Nat) (w : World) (n : Nat) (zf : Lzs) (t1 t2 : Pm Dc) (G1 G2 : Nat → Prop) : Prop where
  x1 : Nx K1 w G1 zf t1 n
  x2 : Nx K2 w G2 zf t2 n
  two : Two K1 K2 G1 G2
  sim : t1.x = none ∨ Sm (MoreBy m) t2 t1
  dict : zf.dict = dict
section
variable {K1 K2 : Kon} {m : List UInt8} {dict : Nat} {w w1 w2 : World} {G1 G2 : Nat → Prop} {zf : Lzs} {t1 t2 : Pm Dc} {n : Nat}
/-- the first one's Next -/
def OneNext (K1 K2 : Kon) (m : List UInt8) (dict : Nat) (w : World) (n : Nat) (zf : Lzs) (t1 t2 : Pm Dc) (G1 G2 : Nat → Prop) (e : Ending) (w1 : World) : Prop :=
  Only (K1.all G1) w w1 ∧ (e = .returned (.tuple #[.int .u8 0, .bool false]) ∨
    ∃ (b : UInt8) (zf' : Lzs) (t1' : Pm Dc) (G1' : Nat → Prop), e = .returned (.tuple #[.int .u8 (b.toNat : Int), .bool true]) ∧ b = zf'.out.getD n 0 ∧ Nx K1 w1 G1' zf' t1' (n + 1) ∧ Nx K2 w1 G2 zf t2 n ∧ Two K1 K2 G1' G2 ∧ zf'.dict = dict ∧ zf'.out.take n = zf.out.take n ∧
      (∀ i, G1' i → G1 i ∨ w.heap.size ≤ i) ∧ Sm (MoreBy m) t2 t1 ∧ ((n < zf.out.length ∧ zf' = zf ∧ t1' = t1) ∨ (n = zf.out.length ∧ ¬ stopP (packP decM zf t2 pk0) ∧ (packP decM zf t2 pk0).2.1 = zf' ∧ Sm (MoreBy m) (packP decM zf t2 pk0).2.2 t1')))
theorem one_nexts (h : Pair K1 K2 m dict w n zf t1 t2 G1 G2) {e : Ending} (hp : NextPost K1 w G1 zf t1 n e w1) : OneNext K1 K2 m dict w n zf t1 t2 G1 G2 e w1 := by
  rcases hp with ⟨zf', t1', G1', rfl, hx, hd, ht, hc, hG, hO⟩ | ⟨rfl, _, _, _, _, _, _, _, _, hO⟩
  · obtain ⟨s1, s2⟩ := two_next h.x1 h.x2 h.sim hc
    refine ⟨hO, .inr ⟨_, zf', t1', G1', rfl, rfl, hx, h.x2.off hO h.two.b, h.two.one h.x1 h.x2 hG, hd.trans h.dict, ht, hG, s1, ?_⟩⟩
    rcases hc with hc | hc
    · exact .inl hc
    · rcases s2 with s2 | s2
      · omega
      · exact .inr s2
  · exact ⟨hO, .inl rfl⟩
/-- the second one's Next, behind a byte of the first -/
theorem two_nexts {b : UInt8} {zf' : Lzs} {t1' : Pm Dc} {G1' : Nat → Prop} (hb : b = zf'.out.getD n 0) (hx : Nx K1 w1 G1' zf' t1' (n + 1)) (hx2 : Nx K2 w1 G2 zf t2 n) (htw : Two K1 K2 G1' G2) (hd : zf'.dict = dict) (hsm : Sm (MoreBy m) t2 t1)
    (hc : (n < zf.out.length ∧ zf' = zf ∧ t1' = t1) ∨ (n = zf.out.length ∧ ¬ stopP (packP decM zf t2 pk0) ∧ (packP decM zf t2 pk0).2.1 = zf' ∧ Sm (MoreBy m) (packP decM zf t2 pk0).2.2 t1')) {e : Ending} (hp : NextPost K2 w1 G2 zf t2 n e w2) :
    e = .returned (.tuple #[.int .u8 (b.toNat : Int), .bool true]) ∧ Only (K2.all G2) w1 w2 ∧ ∃ (t2' : Pm Dc) (G2' : Nat → Prop), Pair K1 K2 m dict w2 (n + 1) zf' t1' t2' G1' G2' ∧ (∀ i, G2' i → G2 i ∨ w1.heap.size ≤ i) := by
  rcases hp with ⟨zf2, t2', G2', rfl, hy, hd2, ht2, hc2, hG, hO⟩ | ⟨rfl, h1, h2, _⟩
  · have hz : zf2 = zf' ∧ Sm (MoreBy m) t2' t1' := by
      rcases hc2 with ⟨c1, rfl, rfl⟩ | ⟨c1, c2, rfl, rfl⟩
      · rcases hc with ⟨_, d2, d3⟩ | ⟨d1, _⟩
        · exact ⟨d2.symm, d3 ▸ hsm⟩
        · omega
      · rcases hc with ⟨d1, _⟩ | ⟨_, _, d3, d4⟩
        · omega
        · exact ⟨d3, d4⟩
    obtain ⟨rfl, hs⟩ := hz
    refine ⟨by rw [hb], hO, t2', G2', ⟨hx.off hO htw.a, hy, (htw.swap.one hx2 hx hG).swap, .inr hs, hd⟩, hG⟩
  · exfalso
    rcases hc with ⟨d1, _⟩ | ⟨_, d2, _⟩
    · omega
    · exact d2 h2
end
end Go.Proofs.Ytjgdjobhhdhfjaa

/-
  The laws' beginning, over what the program's Unpack owes.
-/
namespace Go.Proofs.Ytjgdjobhhdhfjaa
open Go.RowKit

def AwakeCon8 : Prop := ∀ w, Calls Try.prog 7 #[] w fun e w' => e = .returned (.bool true) ∧ Below w.heap.size w w'

theorem res_six : lzRes [0, 0, 0, 0, 0, 0] 3 0 2 4096 1 = some [0] := by
  unfold lzRes
  rw [if_pos (by decide)]
  exact awk_six
theorem res_five : lzRes [0, 0, 0, 0, 0] 3 0 2 4096 1 = none := by
  unfold lzRes
  rw [if_pos (by decide)]
  exact awk_five
theorem code_six : lzCode [0, 0, 0, 0, 0, 0] 3 0 2 4096 1 = 0 := by
  unfold lzCode
  rw [if_pos (by decide)]
  show codeU (unpackN [0, 0, 0, 0, 0, 0] 3 0 2 4096 1) = 0
  rw [awk_six]
  rfl
theorem code_five : lzCode [0, 0, 0, 0, 0] 3 0 2 4096 1 = 12 := by
  unfold lzCode
  rw [if_pos (by decide)]
  show codeU (unpackN [0, 0, 0, 0, 0] 3 0 2 4096 1) = 12
  rw [awk_five]
  rfl

/-- zeros that were made -/
theorem sl_zeros (k : Nat) (w : World) (hk : k ≤ 1000) : Sl (w.alloc (.cells (bv (List.replicate k 0)).toArray 5)) (some ⟨w.heap.size, 0, none⟩) k (bv (List.replicate k 0)) := by
  have := sl_lit w 5 (bv (List.replicate k 0)).toArray (by simp [bv]; omega)
  simpa [bv] using this

/-- behind one of the two: what is answered, the setting, and what was there -/
def AwkR (w : World) (ys : List UInt8) (cd : Int) (v2 v3 : Value) (wx : World) : Prop :=
  ∃ A c, v2 = .slice A ys.length c ∧ v3 = .int .i64 cd ∧ Sl wx A ys.length (bv ys) ∧ Blk wx w.heap.size 24 #[.int .i64 3, .int .i64 0, .int .i64 2, .int .i64 4096] ∧ Below w.heap.size w wx
theorem awk_end {w w1 w2 w3 W : World} {gm : Nat} {ys : List UInt8} {cd : Int} {x : Ending} (hB1 : Below w.heap.size w w1) (hK : Blk w1 w.heap.size 24 #[.int .i64 3, .int .i64 0, .int .i64 2, .int .i64 4096]) (hO2 : Only (fun _ => False) w1 w2) (hg : w1.heap.size ≤ gm)
    (hW : Only (fun _ => False) w2 W) {o : Option (List UInt8)} (ho : o.getD [] = ys) (h : UpPost W gm o cd x w3) : ∃ v2 v3, x = .returned (.tuple #[v2, v3]) ∧ AwkR w ys cd v2 v3 w3 ∧ Only (fun _ => False) w1 w3 := by
  obtain ⟨_, hO, A, c, rfl, hS⟩ := h
  have hO' : Only (fun i => i = gm) w1 w3 := ((hO2.trans hW).mono (fun _ h => h.elim)).trans hO
  rw [ho] at hS ⊢
  have hlt := hK.lt
  exact ⟨_, _, rfl, ⟨A, c, rfl, rfl, hS, hK.only hO' (by show ¬ w.heap.size = gm; omega), hB1.trans (hO'.below hB1.size (by rintro i rfl; have := hB1.size; omega))⟩, hO'.os, hO'.tape, hO'.output, hO'.size, fun i hi _ => hO'.block i hi (by show ¬ i = gm; omega)⟩

set_option maxRecDepth 100000 in
set_option maxHeartbeats 8000000 in
theorem awake8_any (C : UpCon) : AwakeCon8 := by
  intro w
  have hmk6 : ∀ w, (Instr.makeSlice 22 (.int .i64 6) (.int .i64 6)).run Try.prog w = .ok (.slice (some ⟨w.heap.size, 0, none⟩) 6 6) (w.alloc (.cells (bv [0, 0, 0, 0, 0, 0]).toArray 5)) := fun _ => by kernel_rfl
  have hmk5 : ∀ w, (Instr.makeSlice 22 (.int .i64 5) (.int .i64 5)).run Try.prog w = .ok (.slice (some ⟨w.heap.size, 0, none⟩) 5 5) (w.alloc (.cells (bv [0, 0, 0, 0, 0]).toArray 5)) := fun _ => by kernel_rfl
  obtain ⟨w1, hw1⟩ : ∃ w1, w1 = w.alloc (.cells #[.int .i64 3, .int .i64 0, .int .i64 2, .int .i64 4096] 24) := ⟨_, rfl⟩
  have hb1 : Below w.heap.size w w1 := by rw [hw1]; exact (Below.refl _ _).alloc (Nat.le_refl _) _
  have HBk : Blk w1 w.heap.size 24 #[.int .i64 3, .int .i64 0, .int .i64 2, .int .i64 4096] := by rw [hw1]; exact Blk.fresh w _ _
  have HW1 := Lib.hid hw1
  have HB1 := Lib.hid hb1
  have HBK := Lib.hid HBk
  clear hw1 hb1 HBk
  go_enter Try.func7, Try.ntmps7
  go_upto_region 2 with fail
  rw [← HW1.out]
  clear HW1
  go_cut [2, 3] from 7 (fun v2 v3 wx => AwkR w [0] 0 v2 v3 wx)
  case first =>
    have d0 : w1.cell? ⟨w.heap.size, 0, none⟩ = some (.int .i64 3) := HBK.out.cell 0
    have d1 : w1.cell? ⟨w.heap.size, 1, none⟩ = some (.int .i64 0) := HBK.out.cell 1
    have d2 : w1.cell? ⟨w.heap.size, 2, none⟩ = some (.int .i64 2) := HBK.out.cell 2
    have d3 : w1.cell? ⟨w.heap.size, 3, none⟩ = some (.int .i64 4096) := HBK.out.cell 3
    have a0 : (w1.alloc (.cells (bv [0, 0, 0, 0, 0, 0]).toArray 5)).cell? ⟨w.heap.size, 0, none⟩ = some (.int .i64 3) := (Blk.alloc HBK.out _).cell 0
    have a1 : (w1.alloc (.cells (bv [0, 0, 0, 0, 0, 0]).toArray 5)).cell? ⟨w.heap.size, 1, none⟩ = some (.int .i64 0) := (Blk.alloc HBK.out _).cell 1
    have a2 : (w1.alloc (.cells (bv [0, 0, 0, 0, 0, 0]).toArray 5)).cell? ⟨w.heap.size, 2, none⟩ = some (.int .i64 2) := (Blk.alloc HBK.out _).cell 2
    have a3 : (w1.alloc (.cells (bv [0, 0, 0, 0, 0, 0]).toArray 5)).cell? ⟨w.heap.size, 3, none⟩ = some (.int .i64 4096) := (Blk.alloc HBK.out _).cell 3
    go_region_law (first
      | (go_simp; go_at_call 11; refine (much_any _).mono ?_; rintro e w2 ⟨gm, rfl, hM, hg, hb⟩; have hO2 : Only (fun _ => False) w1 w2 := Only.trans (by first | exact (Only.refl _ w1).drewN _ | exact ((Only.refl _ w1).alloc _).drewN _) (Only.of_below hb); have hP2 := HBK.out.only hO2 (fun h => h); have r0 := hP2.cell 0; have r1 := hP2.cell 1; have r2 := hP2.cell 2; have r3 := hP2.cell 3; have s0 := (hP2.alloc (.cells (bv [0, 0, 0, 0, 0, 0]).toArray 5)).cell 0; have s1 := (hP2.alloc (.cells (bv [0, 0, 0, 0, 0, 0]).toArray 5)).cell 1; have s2 := (hP2.alloc (.cells (bv [0, 0, 0, 0, 0, 0]).toArray 5)).cell 2; have s3 := (hP2.alloc (.cells (bv [0, 0, 0, 0, 0, 0]).toArray 5)).cell 3; have HM2 := Lib.hid hM; have HO2 := Lib.hid hO2; have HG2 := Lib.hid (show w1.heap.size ≤ gm ∧ gm < w2.heap.size from ⟨by simp at hg; omega, hM.lt⟩); (first | (have HZ2 := Lib.hid (And.intro (Sl.below (w := (w1.alloc (.cells (bv [0, 0, 0, 0, 0, 0]).toArray 5)).drewN _) (sl_zeros 6 w1 (by omega)) hb) (show w1.heap.size ≠ gm from by simp at hg; omega))) | (have HZ2 := Lib.hid True.intro)); clear hM hO2 hg hb hP2)
      | (go_simp; go_at_call 33; refine (C.up (n := 6) (bs := [0, 0, 0, 0, 0, 0]) (a := 3) (b := 0) (cc := 2) (d := 4096) (size := 1) rfl (by first | exact HZ2.out.1 | exact sl_zeros 6 w2 (by omega)) (by intro _ q o e; injection e with e; injection e with e; first | exact e ▸ HZ2.out.2 | (have := HG2.out; omega)) (by omega) (by first | exact HM2.out | exact HM2.out.alloc _) (fun _ => by omega) (by omega) (by omega)).mono ?_; intro e w3 hpost; obtain ⟨v2, v3, rfl, hR, hO3⟩ := awk_end HB1.out HBK.out HO2.out HG2.out.1 (by first | exact Only.refl _ w2 | exact (Only.refl _ w2).alloc _) (ys := [0]) (cd := lzCode [0, 0, 0, 0, 0, 0] 3 0 2 4096 1) (o := lzRes [0, 0, 0, 0, 0, 0] 3 0 2 4096 1) (by rw [res_six]; rfl) hpost; rw [code_six] at hR; have HR := Lib.hid hR; have HO3 := Lib.hid hO3; clear hpost hR hO3))
    all_goals
      go_wp2_with fail
      go_meet
      exact HR.out
  case rest =>
    obtain ⟨A6, c6, rfl, rfl, hS6, hK6, hB6⟩ := hcut
    have HS6 := Lib.hid hS6
    have HK5 := Lib.hid hK6
    have HB5 := Lib.hid hB6
    have HB5s := Lib.hid hB6.size
    clear hS6 hK6 hB6 HBK HB1
    generalize wc = w5 at *
    go_upto_region 3 with fail
    go_cut [4, 5] from 14 (fun v2 v3 wx => AwkR w [] 12 v2 v3 wx ∧ Only (fun _ => False) w5 wx)
    case first =>
      have d0 : w5.cell? ⟨w.heap.size, 0, none⟩ = some (.int .i64 3) := HK5.out.cell 0
      have d1 : w5.cell? ⟨w.heap.size, 1, none⟩ = some (.int .i64 0) := HK5.out.cell 1
      have d2 : w5.cell? ⟨w.heap.size, 2, none⟩ = some (.int .i64 2) := HK5.out.cell 2
      have d3 : w5.cell? ⟨w.heap.size, 3, none⟩ = some (.int .i64 4096) := HK5.out.cell 3
      have a0 : (w5.alloc (.cells (bv [0, 0, 0, 0, 0]).toArray 5)).cell? ⟨w.heap.size, 0, none⟩ = some (.int .i64 3) := (Blk.alloc HK5.out _).cell 0
      have a1 : (w5.alloc (.cells (bv [0, 0, 0, 0, 0]).toArray 5)).cell? ⟨w.heap.size, 1, none⟩ = some (.int .i64 0) := (Blk.alloc HK5.out _).cell 1
      have a2 : (w5.alloc (.cells (bv [0, 0, 0, 0, 0]).toArray 5)).cell? ⟨w.heap.size, 2, none⟩ = some (.int .i64 2) := (Blk.alloc HK5.out _).cell 2
      have a3 : (w5.alloc (.cells (bv [0, 0, 0, 0, 0]).toArray 5)).cell? ⟨w.heap.size, 3, none⟩ = some (.int .i64 4096) := (Blk.alloc HK5.out _).cell 3
      go_region_law (first
        | (go_simp; go_at_call 11; refine (much_any _).mono ?_; rintro e w2 ⟨gm, rfl, hM, hg, hb⟩; have hO2 : Only (fun _ => False) w5 w2 := Only.trans (by first | exact (Only.refl _ w5).drewN _ | exact ((Only.refl _ w5).alloc _).drewN _) (Only.of_below hb); have hP2 := HK5.out.only hO2 (fun h => h); have r0 := hP2.cell 0; have r1 := hP2.cell 1; have r2 := hP2.cell 2; have r3 := hP2.cell 3; have s0 := (hP2.alloc (.cells (bv [0, 0, 0, 0, 0]).toArray 5)).cell 0; have s1 := (hP2.alloc (.cells (bv [0, 0, 0, 0, 0]).toArray 5)).cell 1; have s2 := (hP2.alloc (.cells (bv [0, 0, 0, 0, 0]).toArray 5)).cell 2; have s3 := (hP2.alloc (.cells (bv [0, 0, 0, 0, 0]).toArray 5)).cell 3; have HM2 := Lib.hid hM; have HO2 := Lib.hid hO2; have HG2 := Lib.hid (show w5.heap.size ≤ gm ∧ gm < w2.heap.size from ⟨by simp at hg; omega, hM.lt⟩); (first | (have HZ2 := Lib.hid (And.intro (Sl.below (w := (w5.alloc (.cells (bv [0, 0, 0, 0, 0]).toArray 5)).drewN _) (sl_zeros 5 w5 (by omega)) hb) (show w5.heap.size ≠ gm from by simp at hg; omega))) | (have HZ2 := Lib.hid True.intro)); clear hM hO2 hg hb hP2)
        | (go_simp; go_at_call 33; refine (C.up (n := 5) (bs := [0, 0, 0, 0, 0]) (a := 3) (b := 0) (cc := 2) (d := 4096) (size := 1) rfl (by first | exact HZ2.out.1 | exact sl_zeros 5 w2 (by omega)) (by intro _ q o e; injection e with e; injection e with e; first | exact e ▸ HZ2.out.2 | (have := HG2.out; omega)) (by omega) (by first | exact HM2.out | exact HM2.out.alloc _) (fun _ => by omega) (by omega) (by omega)).mono ?_; intro e w3 hpost; obtain ⟨v2, v3, rfl, hR, hO3⟩ := awk_end HB5.out HK5.out HO2.out HG2.out.1 (by first | exact Only.refl _ w2 | exact (Only.refl _ w2).alloc _) (ys := []) (cd := lzCode [0, 0, 0, 0, 0] 3 0 2 4096 1) (o := lzRes [0, 0, 0, 0, 0] 3 0 2 4096 1) (by rw [res_five]; rfl) hpost; rw [code_five] at hR; have HR := Lib.hid hR; have HO3 := Lib.hid hO3; clear hpost hR hO3))
      all_goals
        go_wp2_with fail
        go_meet
        exact ⟨HR.out, HO3.out⟩

    case rest =>
      obtain ⟨⟨A7, c7, rfl, rfl, hS7, hK7, hB7⟩, hO7⟩ := hcut
      have HS8 := Lib.hid (fun n => (HS6.out.only hO7 (fun _ _ _ _ h => h)).drewN n)
      have HB7 := Lib.hid hB7
      clear hS7 hK7 hB7 hO7 HS6 HK5 HB5
      go_wp2_with fail
      refine (bytesSame_any (bs := [0]) ((HS8.out 0).alloc _) (sl_one wc _ _) (by decide)).mono ?_
      rintro e w9 ⟨rfl, k9, rfl⟩
      go_wp2_with fail
      go_ret
      exact ⟨rfl, below_drewN (HB7.out.alloc HB7.out.size _) k9⟩
end Go.Proofs.Ytjgdjobhhdhfjaa
