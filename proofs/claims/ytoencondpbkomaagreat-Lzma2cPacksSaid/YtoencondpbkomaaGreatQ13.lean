/-
  CkNum, CkCo, CkMem, Own, AppO, CkTell: put together.
-/
import Derived.Test.YtoencondpbkomaaGreatQ12
import Derived.Test.YtoencondpbkomaaGreatQ05
import Derived.Test.YtoencondpbkomaaGreatQ06
import Derived.Test.YtoencondpbkomaaGreatQ01
set_option linter.unusedVariables false
set_option linter.unusedSimpArgs false
/-
  What LZMA2's coder makes of bytes: numbers.
-/
namespace Go.Proofs.YtoencondpbkomaaGreat
open Go.RowKit

/-- so many bytes of a number, the greatest first -/
def beB : Nat → Nat → List UInt8
  | 0, _ => []
  | l + 1, n => beB l (n / 256) ++ [UInt8.ofNat (n % 256)]
theorem beB_len : ∀ l n, (beB l n).length = l
  | 0, _ => rfl
  | l + 1, n => by
    show (beB l (n / 256) ++ [_]).length = _
    rw [List.length_append, beB_len l]
    rfl
theorem beB_be : ∀ l n, n < 256 ^ l → be (beB l n) = n
  | 0, n, h => by
    have : n = 0 := by simpa using h
    subst this
    rfl
  | l + 1, n, h => by
    show be (beB l (n / 256) ++ [_]) = _
    rw [be_snoc, beB_be l (n / 256) (by rw [Nat.pow_succ] at h; omega), UInt8.toNat_ofNat']
    omega
theorem beB_of {bs : List UInt8} {n l : Nat} (h : be bs = n) (hl : bs.length = l) : bs = beB l n :=
  be_inj _ _ (by rw [hl, beB_len]) (by rw [beB_be _ _ (by rw [← h]; exact be_lt bs l hl)]; exact h)

/-- state, distances and probabilities begin anew -/
def reS (s : Lzs × Pm En) : Lzs × Pm En := ({ s.1 with st := 0, r0 := 0, r1 := 0, r2 := 0, r3 := 0 }, ⟨List.replicate s.2.ps.length 1024, s.2.x⟩)
/-- the stream was told -/
def finS (s : Lzs × Pm En) : Lzs × Pm En := (s.1, ⟨s.2.ps, En.new⟩)
def preS (how : Nat) (s : Lzs × Pm En) : Lzs × Pm En := if how = 0 then s else reS s
/-- the packets of the bytes from F to T -/
def findS (b : List UInt8) (dict F T : Nat) (z : Lzs) : List Pq := (findF b dict T ⟨F, z.r0, z.r1, z.r2, z.r3⟩).1
def runL (L : List Pq) (s : Lzs × Pm En) : Lzs × Pm En := runT (fun h => L.getD h ⟨0, 0, 0, 0⟩) s L.length
def strS (b : List UInt8) (dict F T how : Nat) (s : Lzs × Pm En) : Lzs × Pm En := runL (findS b dict F T (preS how s).1) (preS how s)
def strB (s : Lzs × Pm En) : List UInt8 := beB s.2.x.l s.2.x.n

theorem copyG_like : ∀ (f n : Nat) (z : Lzs), Like z (copyG f n z).2
  | 0, _, z => Like.refl z
  | f + 1, n, z => by
    by_cases h : z.has z.r0 = true
    · rw [copyG_go h]
      have := copyG_like f (n + 1) (z.push (z.back z.r0))
      exact ⟨this.lc, this.lp, this.pb, this.dict⟩
    · rw [copyG_stop h]
      exact ⟨rfl, rfl, rfl, rfl⟩
theorem tailP_like {σ : Type} (M : Mach σ) (many : Nat) (z : Lzs) (t : Pm σ) : Like z (tailP M many z t).2.1 := by
  unfold tailP
  split
  · exact ⟨rfl, rfl, rfl, rfl⟩
  · exact copyG_like _ _ _
theorem packP_like {σ : Type} (M : Mach σ) (z : Lzs) (t : Pm σ) (p : Pk) : Like z (packP M z t p).2.1 := by
  unfold packP packK
  generalize kindP M t _ _ _ _ = kb
  split
  · unfold packL
    split
    · exact ⟨rfl, rfl, rfl, rfl⟩
    · exact ⟨rfl, rfl, rfl, rfl⟩
  split
  · unfold packM packD
    have := tailP_like M (((lenP M kb.2.2 819 (z.out.length % 2 ^ z.pb) (if p.kind = 7 then 0 else p.len - 2))).1 + 2)
    generalize lenP M kb.2.2 819 _ _ = b at *
    generalize distP M b.2 b.1 _ = dd
    have := this { z with bad := z.bad || kb.2.1, r0 := dd.1, r1 := z.r0, r2 := z.r1, r3 := z.r2, st := aft 7 10 z.st, ended := decide (dd.1 = 4294967295) && !M.bad dd.2.x } dd.2
    exact ⟨this.lc, this.lp, this.pb, this.dict⟩
  split
  · have := tailP_like M 1 { z with bad := z.bad || kb.2.1, st := aft 9 11 z.st } kb.2.2
    exact ⟨this.lc, this.lp, this.pb, this.dict⟩
  · unfold packR
    generalize lenP M kb.2.2 1333 _ _ = b
    have := tailP_like M (b.1 + 2) { Lzs.again { z with bad := z.bad || kb.2.1 } (kb.1 - 2) with st := aft 8 11 z.st } b.2
    exact ⟨this.lc, this.lp, this.pb, this.dict⟩

/-- what holds between two pieces -/
structure Cmd (b : List UInt8) (dict L F : Nat) (s : Lzs × Pm En) : Prop where
  par : Par b dict ⟨F, s.1.r0, s.1.r1, s.1.r2, s.1.r3⟩ s.1
  near : ZNear s.1 L b.length
  ps : PsOk s.2.ps
  len : s.2.ps.length = L
  x : s.2.x = En.new

theorem okE_new {k : Nat} (h : k ≤ 28000000) : okE k En.new := ⟨enOk_new, by show 5 + 32 * k ≤ _; omega⟩
section
variable {b : List UInt8} {dict L F T k how : Nat} {s : Lzs × Pm En}
theorem Cmd.pm (h : Cmd b dict L F s) (hk : k ≤ 28000000) : PmOk okE L k s.2 := ⟨h.ps, h.len, by rw [h.x]; exact okE_new hk⟩
theorem Cmd.tol (h : Cmd b dict L F s) (hk : k ≤ 28000000) : Tol b dict L k ⟨F, s.1.r0, s.1.r1, s.1.r2, s.1.r3⟩ s := ⟨h.par, h.near, h.pm hk⟩
theorem Cmd.re (h : Cmd b dict L F s) : Cmd b dict L F (reS s) := by
  have p := h.par
  have n := h.near
  refine ⟨⟨p.out, p.le, rfl, rfl, rfl, rfl, p.bad, p.ended, p.dict⟩, ⟨n.lc, n.lp, n.pb, n.dict, n.out, Nat.zero_le _, (by decide : 0 < 4294967296), (by decide : 0 < 4294967296), (by decide : 0 < 4294967296), (by decide : 0 < 4294967296), n.len⟩, ?_, ?_, h.x⟩
  · intro p hp
    have hp : p ∈ List.replicate s.2.ps.length 1024 := hp
    rw [List.eq_of_mem_replicate hp]
    exact ⟨by decide, by decide⟩
  · show (List.replicate s.2.ps.length 1024).length = _
    rw [List.length_replicate]
    exact h.len
theorem Cmd.pre (h : Cmd b dict L F s) : Cmd b dict L F (preS how s) := by
  unfold preS
  split
  · exact h
  · exact h.re

end

/-- all streams have five bytes at least -/
def okE5 : Nat → En → Prop := fun k e => okE k e ∧ 5 ≤ e.l
theorem encM_ok5 : MachOk encM okE5 := by
  refine ⟨fun {x k k'} h hk => ⟨encM_ok.mono h.1 hk, h.2⟩, fun {x k p w} hx hp hw => ?_, fun h => encM_ok.tell h, fun {x k n v} hx hn hv => ?_⟩
  · obtain ⟨a1, a2, a3⟩ := encM_ok.bit hx.1 hp hw
    refine ⟨a1, a2, a3, ?_⟩
    obtain ⟨m, hm, _⟩ : Reach x (x.bit p w.toNat) := bit_reach hx.1.1 hp
    have := hx.2
    show 5 ≤ (x.bit p w.toNat).l
    omega
  · obtain ⟨a1, a2⟩ := encM_ok.str hx.1 hn hv
    refine ⟨a1, a2, ?_⟩
    obtain ⟨m, hm, _⟩ : Reach (strE x v n 0) (strE x v n (0 + n)) := strE_reach x v n 0 n
    rw [Nat.zero_add] at hm
    have hm : (strE x v n n).l = x.l + m := hm
    have := hx.2
    show 5 ≤ (strE x v n n).l
    omega

section
variable {b : List UInt8} {dict L F T k how : Nat} {s : Lzs × Pm En}
/-- what the packets are that are found, and where the coder is behind them -/
theorem str_all (h : Cmd b dict L F s) (hF : F ≤ T) (hT : T ≤ b.length) (hn : b.length ≤ 1000000) (Q : List Pq) (hQ : Q = findS b dict F T s.1) :
    (∀ h, h < Q.length → PqLit (Q.getD h ⟨0, 0, 0, 0⟩) ∧ fitsP (runT (fun h => Q.getD h ⟨0, 0, 0, 0⟩) s h).1 (Q.getD h ⟨0, 0, 0, 0⟩).k (Q.getD h ⟨0, 0, 0, 0⟩).v.toNat (Q.getD h ⟨0, 0, 0, 0⟩).n = true ∧
      ZNear (runT (fun h => Q.getD h ⟨0, 0, 0, 0⟩) s h).1 L b.length ∧ (runT (fun h => Q.getD h ⟨0, 0, 0, 0⟩) s h).1.bad = false ∧ PmOk okE L (27 * (Q.length - h)) (runT (fun h => Q.getD h ⟨0, 0, 0, 0⟩) s h).2) ∧
    Q.length ≤ T ∧ Cmd b dict L T (finS (runL Q s)) ∧ 5 ≤ (runL Q s).2.x.l ∧ (runL Q s).1.ended = false ∧ EnOk (runL Q s).2.x ∧ (runL Q s).2.x.l ≤ 900000000 ∧ (runL Q s).1.lc = s.1.lc ∧ (runL Q s).1.lp = s.1.lp ∧ (runL Q s).1.pb = s.1.pb := by
  unfold runL
  obtain ⟨q, hq⟩ : ∃ q : Nat → Pq, q = fun h => Q.getD h ⟨0, 0, 0, 0⟩ := ⟨_, rfl⟩
  have hqv : ∀ h, Q.getD h ⟨0, 0, 0, 0⟩ = q h := fun h => by rw [hq]
  simp only [hqv]
  obtain ⟨s0, hs00⟩ : ∃ s0 : Ps, s0 = ⟨F, s.1.r0, s.1.r1, s.1.r2, s.1.r3⟩ := ⟨_, rfl⟩
  have hgo : Q = (goF b dict T s0 T).1 := by rw [hQ, hs00]; rfl
  have hi0 : s0.i = F := by rw [hs00]
  have hlen : Q.length ≤ T := by rw [hgo]; exact go_len T
  have hs0 : Tol b dict L (0 + 27 * Q.length) s0 s := by
    rw [hs00]
    exact h.tol (by omega)
  have hm : (goF b dict T s0 T).1.length = Q.length := by rw [hgo]
  have hqs : ∀ h, h < Q.length → q h = (stepF b dict T (goF b dict T s0 h).2).1 := fun h hh => by
    obtain ⟨_, g2, _⟩ := go_get (b := b) (dict := dict) (e := T) (s := s0) T h (by rw [hm]; exact hh)
    rw [← hgo] at g2
    rw [← hqv, List.getD_eq_getElem?_getD, g2]
    rfl
  have htol := tol_run hs0 hT T hm hqs
  have hall : ∀ h, h < Q.length → PqLit (q h) ∧ fitsP (runT q s h).1 (q h).k (q h).v.toNat (q h).n = true ∧ ZNear (runT q s h).1 L b.length ∧ (runT q s h).1.bad = false ∧ PmOk okE L (27 * (Q.length - h)) (runT q s h).2 := by
    intro h hh
    have h1 := htol h (by omega)
    obtain ⟨g1, _, _⟩ := go_get (b := b) (dict := dict) (e := T) (s := s0) T h (by rw [hm]; exact hh)
    have h2 := h1
    rw [show 0 + 27 * (Q.length - h) = (27 * (Q.length - (h + 1))) + 27 by omega] at h2
    obtain ⟨p1, p2, _⟩ := tol_step h2 g1 hT
    rw [← hqs h hh] at p1 p2
    have hok := h1.ok
    rw [Nat.zero_add] at hok
    exact ⟨p1, p2, h1.near, h1.par.bad, hok⟩
  have h1 := htol Q.length (Nat.le_refl _)
  have hfull := go_full (b := b) (dict := dict) (e := T) (s := s0) T
  rw [hm] at hfull
  have hend : (goF b dict T s0 T).2.i = T := by
    have e1 := go_end (b := b) (dict := dict) (e := T) (s := s0) (by rw [hi0]; exact hF) T
    by_cases hl : (goF b dict T s0 T).2.i < T
    · have e2 := go_more (b := b) (dict := dict) (e := T) (s := s0) T hl
      omega
    · omega
  rw [hfull] at h1
  have hp := h1.par
  have hfive : ∀ j, j ≤ Q.length → PmOk okE5 L (27 * (Q.length - j)) (runT q s j).2 ∧ (runT q s j).1.lc = s.1.lc ∧ (runT q s j).1.lp = s.1.lp ∧ (runT q s j).1.pb = s.1.pb := by
    intro j
    induction j with
    | zero => exact fun _ => ⟨⟨h.ps, h.len, by show okE5 _ s.2.x; rw [h.x]; exact ⟨okE_new (by omega), by decide⟩⟩, rfl, rfl, rfl⟩
    | succ j ih =>
      intro hj
      obtain ⟨i1, i2, i3, i4⟩ := ih (by omega)
      obtain ⟨a1, a2, a3, a4, a5⟩ := hall j (by omega)
      obtain ⟨f1, f2, f3⟩ := fits_pk a1 a2
      rw [show 27 * (Q.length - j) = 27 * (Q.length - (j + 1)) + 27 by omega] at i1
      obtain ⟨n1, n2, _⟩ := packP_near encM_ok5 a3 i1 f1 f2
      have hst : stepP (runT q s j) (q j).pk = (packP encM (runT q s j).1 (runT q s j).2 (q j).pk).2 := if_pos a2
      show PmOk okE5 L _ (stepP (runT q s j) (q j).pk).2 ∧ (stepP (runT q s j) (q j).pk).1.lc = _ ∧ (stepP (runT q s j) (q j).pk).1.lp = _ ∧ (stepP (runT q s j) (q j).pk).1.pb = _
      rw [hst]
      obtain ⟨k1, k2, k3, _⟩ := packP_like encM (runT q s j).1 (runT q s j).2 (q j).pk
      exact ⟨n2, k1.trans i2, k2.trans i3, k3.trans i4⟩
  obtain ⟨g1, g2, g3, g4⟩ := hfive Q.length (Nat.le_refl _)
  refine ⟨hall, hlen, ⟨?_, h1.near, h1.ok.ps, h1.ok.len, rfl⟩, g1.x.2, hp.ended, g1.x.1.1, ?_, g2, g3, g4⟩
  · have hout := hp.out
    rw [hend] at hout
    exact ⟨hout, hT, rfl, rfl, rfl, rfl, hp.bad, hp.ended, hp.dict⟩
  · have h9 : (runT q s Q.length).2.x.l + 32 * (27 * (Q.length - Q.length)) ≤ 900000000 := g1.x.1.2
    show (runT q s Q.length).2.x.l ≤ 900000000
    omega
end

/-- what goes on from piece to piece: what the next brings, the coder, what was told -/
structure Ckn where
  how : Nat
  s : Lzs × Pm En
  out : List UInt8
def cntB (n : Nat) : List UInt8 := [UInt8.ofNat ((n - 1) / 256), UInt8.ofNat ((n - 1) % 256)]
def packedB (how : Nat) (p0 : UInt8) (n : Nat) (st : List UInt8) : List UInt8 :=
  [UInt8.ofNat (128 + 32 * how)] ++ cntB n ++ cntB st.length ++ (if 2 ≤ how then [p0] else []) ++ st
def plainB (how : Nat) (xs : List UInt8) : List UInt8 := [if how = 3 then 1 else 2] ++ cntB xs.length ++ xs
def nextH (how : Nat) : Nat := if how = 3 then 2 else if how = 0 then 1 else how
/-- a piece of n bytes, told while the coder stands at at_ -/
def pieceN (b : List UInt8) (p0 : UInt8) (dict at_ : Nat) (xs : List UInt8) (k : Ckn) : Ckn :=
  if (strS b dict (min at_ b.length) (min (at_ + xs.length) b.length) k.how k.s).2.x.l < xs.length then
    ⟨0, finS (strS b dict (min at_ b.length) (min (at_ + xs.length) b.length) k.how k.s), k.out ++ packedB k.how p0 xs.length (strB (strS b dict (min at_ b.length) (min (at_ + xs.length) b.length) k.how k.s))⟩
  else ⟨nextH k.how, finS (strS b dict (min at_ b.length) (min (at_ + xs.length) b.length) k.how k.s), k.out ++ plainB k.how xs⟩
/-- piece number j -/
def cutB (b : List UInt8) (p j : Nat) : List UInt8 := (b.drop (j * p)).take p
theorem cutB_len (b : List UInt8) (p j : Nat) : (cutB b p j).length = min p (b.length - j * p) := by
  unfold cutB
  rw [List.length_take, List.length_drop]
def stepQ (b : List UInt8) (p0 : UInt8) (dict p : Nat) (a : Nat × Ckn) (j : Nat) : Nat × Ckn := (a.1 + (cutB b p j).length, pieceN b p0 dict a.1 (cutB b p j) a.2)
/-- behind pieces of these numbers -/
def foldQ (b : List UInt8) (p0 : UInt8) (dict p : Nat) (s : Lzs × Pm En) (js : List Nat) : Nat × Ckn := js.foldl (stepQ b p0 dict p) (0, ⟨3, s, []⟩)
theorem foldQ_snoc (b : List UInt8) (p0 : UInt8) (dict p : Nat) (s : Lzs × Pm En) (js : List Nat) (j : Nat) : foldQ b p0 dict p s (js ++ [j]) = stepQ b p0 dict p (foldQ b p0 dict p s js) j := by
  unfold foldQ
  rw [List.foldl_append]
  rfl
/-- how many there are -/
def manyN (n p : Nat) : Nat := (n + (p - 1)) / p
theorem many_lt {n p j : Nat} (hp : 1 ≤ p) : j < manyN n p ↔ j * p < n := by
  unfold manyN
  rw [Nat.lt_div_iff_mul_lt (by omega)]
  omega
def headB (lc lp pb : Nat) : UInt8 := UInt8.ofNat (45 * pb + 9 * lp + lc)
def packN (b : List UInt8) (lc lp pb dict p : Nat) : List UInt8 := (foldQ b (headB lc lp pb) dict p (freshS lc lp pb dict) (List.range (manyN b.length p))).2.out ++ [0]

/-- what holds behind pieces, whatever their numbers are -/
structure Ckw (b : List UInt8) (lc lp pb dict p k : Nat) (a : Nat × Ckn) : Prop where
  cmd : Cmd b dict (1847 + 768 * 2 ^ (lc + lp)) (min a.1 b.length) a.2.s
  how : a.2.how ≤ 3
  set : a.2.s.1.lc = lc ∧ a.2.s.1.lp = lp ∧ a.2.s.1.pb = pb
  out : a.2.out.length ≤ k * (p + 6)
  at_ : a.1 ≤ k * p
theorem pre_set {how : Nat} {s : Lzs × Pm En} : (preS how s).1.lc = s.1.lc ∧ (preS how s).1.lp = s.1.lp ∧ (preS how s).1.pb = s.1.pb := by
  unfold preS
  split <;> exact ⟨rfl, rfl, rfl⟩
theorem ckw_step {b : List UInt8} {lc lp pb dict p k j : Nat} {a : Nat × Ckn} {p0 : UInt8} (h : Ckw b lc lp pb dict p k a) (hn : b.length ≤ 1000000) : Ckw b lc lp pb dict p (k + 1) (stepQ b p0 dict p a j) := by
  obtain ⟨xs, hxs⟩ : ∃ xs, xs = cutB b p j := ⟨_, rfl⟩
  have hx : xs.length ≤ p := by rw [hxs, cutB_len]; omega
  obtain ⟨hall, hlen, hcmd, hfive, hend, hen, hl9, hlc⟩ := str_all (h.cmd.pre (how := a.2.how)) (T := min (a.1 + xs.length) b.length) (by omega) (by omega) hn _ rfl
  have hset := h.set
  obtain ⟨r1, r2, r3⟩ := pre_set (how := a.2.how) (s := a.2.s)
  have hmul : (k + 1) * (p + 6) = k * (p + 6) + (p + 6) := Nat.succ_mul _ _
  have hmul2 : (k + 1) * p = k * p + p := Nat.succ_mul _ _
  have ho := h.out
  have ha := h.at_
  have hh := h.how
  have hstep : stepQ b p0 dict p a j = (a.1 + xs.length, pieceN b p0 dict a.1 xs a.2) := by rw [hxs]; rfl
  rw [hstep]
  have hs : (strS b dict (min a.1 b.length) (min (a.1 + xs.length) b.length) a.2.how a.2.s) = runL (findS b dict (min a.1 b.length) (min (a.1 + xs.length) b.length) (preS a.2.how a.2.s).1) (preS a.2.how a.2.s) := rfl
  unfold pieceN
  rw [hs]
  generalize runL (findS b dict (min a.1 b.length) (min (a.1 + xs.length) b.length) (preS a.2.how a.2.s).1) (preS a.2.how a.2.s) = s2 at *
  have hset2 : (finS s2).1.lc = lc ∧ (finS s2).1.lp = lp ∧ (finS s2).1.pb = pb := ⟨hlc.1.trans (r1.trans hset.1), hlc.2.1.trans (r2.trans hset.2.1), hlc.2.2.trans (r3.trans hset.2.2)⟩
  have hat : a.1 + xs.length ≤ (k + 1) * p := by omega
  split
  · rename_i hlt
    have hsb : (strB s2).length = s2.2.x.l := beB_len _ _
    refine ⟨hcmd, Nat.zero_le _, hset2, ?_, hat⟩
    show (a.2.out ++ packedB _ _ _ _).length ≤ _
    rw [List.length_append]
    have : (packedB a.2.how p0 xs.length (strB s2)).length ≤ 6 + s2.2.x.l := by
      unfold packedB cntB
      split
      · simp [hsb]; omega
      · simp [hsb]; omega
    omega
  · refine ⟨hcmd, ?_, hset2, ?_, hat⟩
    · show nextH a.2.how ≤ 3
      unfold nextH
      split
      · omega
      · split <;> omega
    · show (a.2.out ++ plainB _ _).length ≤ _
      rw [List.length_append]
      have : (plainB a.2.how xs).length = 3 + xs.length := by
        unfold plainB cntB
        simp
        omega
      omega
theorem ckw_start {b : List UInt8} {lc lp pb dict p : Nat} (h : SetOk lc lp pb dict) : Ckw b lc lp pb dict p 0 (0, ⟨3, freshS lc lp pb dict, []⟩) := by
  have hn := fresh_near h
  have e : min 0 b.length = 0 := by omega
  refine ⟨?_, Nat.le_refl _, ⟨rfl, rfl, rfl⟩, Nat.zero_le _, Nat.zero_le _⟩
  show Cmd b dict (1847 + 768 * 2 ^ (lc + lp)) (min 0 b.length) (freshS lc lp pb dict)
  rw [e]
  have hok := fresh_pm (lc := lc) (lp := lp) (pb := pb) (dict := dict) (m := 0) (Nat.zero_le _)
  exact ⟨⟨rfl, Nat.zero_le _, rfl, rfl, rfl, rfl, rfl, rfl, rfl⟩, ⟨hn.lc, hn.lp, hn.pb, hn.dict, Nat.zero_le _, hn.st, hn.r0, hn.r1, hn.r2, hn.r3, hn.len⟩, hok.ps, hok.len, rfl⟩
theorem ckw_fold {b : List UInt8} {lc lp pb dict p : Nat} {p0 : UInt8} (h : SetOk lc lp pb dict) (hn : b.length ≤ 1000000) (js : List Nat) : Ckw b lc lp pb dict p js.length (foldQ b p0 dict p (freshS lc lp pb dict) js) := by
  have key : ∀ (n : Nat) (js : List Nat), js.length = n → Ckw b lc lp pb dict p n (foldQ b p0 dict p (freshS lc lp pb dict) js) := by
    intro n
    induction n with
    | zero =>
      intro js hj
      obtain rfl := List.eq_nil_of_length_eq_zero hj
      exact ckw_start h
    | succ n ih =>
      intro js hj
      obtain ⟨pre, x, rfl⟩ : ∃ pre x, js = pre ++ [x] := ⟨js.dropLast, js.getLast (by intro e; rw [e] at hj; exact (nomatch hj)), (List.dropLast_concat_getLast _).symm⟩
      rw [foldQ_snoc]
      exact ckw_step (ih pre (by simpa using hj)) hn
  exact key _ js rfl
end Go.Proofs.YtoencondpbkomaaGreat

/-
  The program's coder of LZMA: state, distances and probabilities begin anew, whatever it did; its stream, and what goes on behind.
-/
namespace Go.Proofs.YtoencondpbkomaaGreat
open Go.RowKit

def coFz (a b c d : Int) (eg : Nat) (told lit : Value) (st r0 r1 r2 r3 : Nat) (en : Bool) : List Value :=
  [.int .i64 a, .int .i64 b, .int .i64 c, .int .i64 d, .pointer (some ⟨eg, 0, none⟩), told, .int .i64 (st : Int), .int .u32 (r0 : Int), .int .u32 (r1 : Int), .int .u32 (r2 : Int), .int .u32 (r3 : Int), lit, .bool en]
section
variable {w w' : World} {g eg : Nat}

set_option maxRecDepth 100000 in
set_option maxHeartbeats 8000000 in
/-- Reset of any coder. -/
theorem creagain_any {lc lp pb dict : Nat} {a b c : Int} {ps : List Nat} {told lit : Value} {st r0 r1 r2 r3 : Nat} {en : Bool} (hset : SetOk lc lp pb dict) (h6 : lc + lp ≤ 6) (h : Lr g (coFz a b c (dict : Int) eg told lit st r0 r1 r2 r3 en) w ps) :
    Calls Tryz.prog 26 #[.pointer (some ⟨g, 0, none⟩), .agg #[.int .i64 (lc : Int), .int .i64 (lp : Int), .int .i64 (pb : Int), .int .i64 (dict : Int)]] w fun e w' =>
      e = .returned (.tuple #[]) ∧ ∃ lb, Lr g (coFz (lc : Int) (lp : Int) (pb : Int) (dict : Int) eg told (.slice (some ⟨lb, 0, none⟩) (768 * 2 ^ (lc + lp)) (768 * 2 ^ (lc + lp))) 0 0 0 0 0 en) w' (List.replicate 1847 1024) ∧ Row w' lb (List.replicate (768 * 2 ^ (lc + lp)) 1024) (768 * 2 ^ (lc + lp)) ∧ w.heap.size ≤ lb ∧ Only (fun i => i = g) w w' := by
  obtain ⟨w1, hw1⟩ : ∃ w1, w1 = w.alloc (.cells #[.int .i64 (lc : Int), .int .i64 (lp : Int), .int .i64 (pb : Int), .int .i64 (dict : Int)] 24) := ⟨_, rfl⟩
  have hO1 : Only (fun _ => False) w w1 := by rw [hw1]; exact (Only.refl _ w).alloc _
  have HBk : Blk w1 w.heap.size 24 #[.int .i64 (lc : Int), .int .i64 (lp : Int), .int .i64 (pb : Int), .int .i64 (dict : Int)] := by rw [hw1]; exact Blk.fresh w _ _
  have hgs : g < w.heap.size := h.1.lt
  have KM := pmay_any (lc : Int) (lp : Int) (pb : Int) (dict : Int) w1
  rw [setOk_may hset] at KM
  have KM := Lib.hid KM
  have KL := fun w => plits_any (lc := lc) (lp := lp) (pb : Int) (dict : Int) (by omega) w
  obtain ⟨nl, hnl⟩ : ∃ nl, nl = 768 * 2 ^ (lc + lp) := ⟨_, rfl⟩
  have hnl6 : nl ≤ 1000000 := by rw [hnl]; exact Nat.le_trans (Nat.mul_le_mul_left 768 (Nat.pow_le_pow_right (by decide) h6)) (by decide)
  rw [← hnl] at KL ⊢
  have KL := Lib.hid KL
  have KF := Lib.hid (fun w => fresh_any (n := nl) hnl6 w)
  have HR1 := Lib.hid ((lr_prb g _).only h hO1 (fun _ _ h => h))
  have HW1 := Lib.hid hw1
  have HO1 := Lib.hid hO1
  have HBK := Lib.hid HBk
  have HG := Lib.hid hgs
  have o0 : w1.cell? ⟨w.heap.size, 0, none⟩ = some (.int .i64 (lc : Int)) := HBk.cell 0
  have o1 : w1.cell? ⟨w.heap.size, 1, none⟩ = some (.int .i64 (lp : Int)) := HBk.cell 1
  have o2 : w1.cell? ⟨w.heap.size, 2, none⟩ = some (.int .i64 (pb : Int)) := HBk.cell 2
  have o3 : w1.cell? ⟨w.heap.size, 3, none⟩ = some (.int .i64 (dict : Int)) := HBk.cell 3
  clear hw1 hO1 HBk h hset h6 hnl hnl6
  go_enter Tryz.func26, Tryz.ntmps26
  go_upto_region 1 with fail
  rw [← HW1.out]
  clear HW1
  go_wp2_with fail
  refine KM.out.mono ?_
  rintro e w2 ⟨rfl, hb2⟩
  have ho2 : Only (fun _ => False) w1 w2 := Only.of_below hb2
  have HO2 := Lib.hid (HO1.out.trans ho2)
  have HBK2 := Lib.hid (HBK.out.only ho2 (fun h => h))
  have hr2 := (lr_prb g _).only HR1.out ho2 (fun _ _ h => h)
  have o0 : w2.cell? ⟨w.heap.size, 0, none⟩ = some (.int .i64 (lc : Int)) := HBK2.out.cell 0
  have o1 : w2.cell? ⟨w.heap.size, 1, none⟩ = some (.int .i64 (lp : Int)) := HBK2.out.cell 1
  have o2 : w2.cell? ⟨w.heap.size, 2, none⟩ = some (.int .i64 (pb : Int)) := HBK2.out.cell 2
  have a0 : w2.cell? ⟨g, 0, none⟩ = some (.int .i64 a) := hr2.1.cell 0 (by decide)
  have a1 : w2.cell? ⟨g, 1, none⟩ = some (.int .i64 b) := hr2.1.cell 1 (by decide)
  have a2 : w2.cell? ⟨g, 2, none⟩ = some (.int .i64 c) := hr2.1.cell 2 (by decide)
  have b0 := hr2.1.free 0
  have b1 := hr2.1.free 1
  have b2 := hr2.1.free 2
  have hne : w.heap.size ≠ g := by have := HG.out; omega
  have HR2 := Lib.hid hr2
  have p1 := ((hr2.put 0 (by decide) (.int .i64 (lc : Int))).put 1 (by decide) (.int .i64 (lp : Int))).put 2 (by decide) (.int .i64 (pb : Int))
  have HZ3 : Hid (Lr g (coFz (lc : Int) (lp : Int) (pb : Int) (dict : Int) eg told lit st r0 r1 r2 r3 en) (((w2.setCell ⟨g, 0, none⟩ (.int .i64 (lc : Int))).setCell ⟨g, 1, none⟩ (.int .i64 (lp : Int))).setCell ⟨g, 2, none⟩ (.int .i64 (pb : Int))) ps) := Lib.hid p1
  have hq3 : Only (fun i => i = g) w2 (((w2.setCell ⟨g, 0, none⟩ (.int .i64 (lc : Int))).setCell ⟨g, 1, none⟩ (.int .i64 (lp : Int))).setCell ⟨g, 2, none⟩ (.int .i64 (pb : Int))) :=
    (((Only.refl (fun i => i = g) w2).setCell (p := ⟨g, 0, none⟩) (.inl rfl) _).setCell (p := ⟨g, 1, none⟩) (.inl rfl) _).setCell (p := ⟨g, 2, none⟩) (.inl rfl) _
  have HO3 := Lib.hid (show Only (fun i => i = g) w _ from (HO2.out.mono fun _ h => h.elim).trans hq3)
  have HBK3 := Lib.hid (HBK2.out.only hq3 hne)
  clear hb2 ho2 hr2 p1 hq3 KM HBK HBK2 HR1 HO1 HO2
  go_wp2_with fail
  go_region
  have HZ3 := Lib.hid ((lr_prb g _).only HZ3.out ((Only.refl (fun _ => False) _).drewN 1) (fun _ _ h => h))
  have HO3 := Lib.hid (HO3.out.drewN 1)
  have HBK3 := Lib.hid (HBK3.out.drewN 1)
  change Exit.then _ _ _ _ ((((w2.setCell ⟨g, 0, none⟩ (.int .i64 (lc : Int))).setCell ⟨g, 1, none⟩ (.int .i64 (lp : Int))).setCell ⟨g, 2, none⟩ (.int .i64 (pb : Int))).drewN 1)
  generalize ((((w2.setCell ⟨g, 0, none⟩ (.int .i64 (lc : Int))).setCell ⟨g, 1, none⟩ (.int .i64 (lp : Int))).setCell ⟨g, 2, none⟩ (.int .i64 (pb : Int))).drewN 1) = w3 at *
  clear o0 o1 o2 a0 a1 a2 b0 b1 b2 HR2
  have a6 := HZ3.out.1.cell 6 (by decide)
  have a7 := HZ3.out.1.cell 7 (by decide)
  have a8 := HZ3.out.1.cell 8 (by decide)
  have a9 := HZ3.out.1.cell 9 (by decide)
  have a10 := HZ3.out.1.cell 10 (by decide)
  change w3.cell? ⟨g, 6, none⟩ = some (.int .i64 (st : Int)) at a6
  change w3.cell? ⟨g, 7, none⟩ = some (.int .u32 (r0 : Int)) at a7
  change w3.cell? ⟨g, 8, none⟩ = some (.int .u32 (r1 : Int)) at a8
  change w3.cell? ⟨g, 9, none⟩ = some (.int .u32 (r2 : Int)) at a9
  change w3.cell? ⟨g, 10, none⟩ = some (.int .u32 (r3 : Int)) at a10
  have b6 := HZ3.out.1.free 6
  have b7 := HZ3.out.1.free 7
  have b8 := HZ3.out.1.free 8
  have b9 := HZ3.out.1.free 9
  have b10 := HZ3.out.1.free 10
  have p4 := ((((HZ3.out.put 6 (by decide) (.int .i64 0)).put 7 (by decide) (.int .u32 0)).put 8 (by decide) (.int .u32 0)).put 9 (by decide) (.int .u32 0)).put 10 (by decide) (.int .u32 0)
  have HZ4 : Hid (Lr g (coFz (lc : Int) (lp : Int) (pb : Int) (dict : Int) eg told lit 0 0 0 0 0 en) (((((w3.setCell ⟨g, 6, none⟩ (.int .i64 0)).setCell ⟨g, 7, none⟩ (.int .u32 0)).setCell ⟨g, 8, none⟩ (.int .u32 0)).setCell ⟨g, 9, none⟩ (.int .u32 0)).setCell ⟨g, 10, none⟩ (.int .u32 0)) ps) := Lib.hid p4
  have hq4 : Only (fun i => i = g) w3 (((((w3.setCell ⟨g, 6, none⟩ (.int .i64 0)).setCell ⟨g, 7, none⟩ (.int .u32 0)).setCell ⟨g, 8, none⟩ (.int .u32 0)).setCell ⟨g, 9, none⟩ (.int .u32 0)).setCell ⟨g, 10, none⟩ (.int .u32 0)) :=
    (((((Only.refl (fun i => i = g) w3).setCell (p := ⟨g, 6, none⟩) (.inl rfl) _).setCell (p := ⟨g, 7, none⟩) (.inl rfl) _).setCell (p := ⟨g, 8, none⟩) (.inl rfl) _).setCell (p := ⟨g, 9, none⟩) (.inl rfl) _).setCell (p := ⟨g, 10, none⟩) (.inl rfl) _
  have HO4 := Lib.hid (HO3.out.trans hq4)
  have HBK4 := Lib.hid (HBK3.out.only hq4 hne)
  clear p4 hq4 HZ3 HO3 HBK3
  go_upto_region 4 with fail
  generalize (((((w3.setCell ⟨g, 6, none⟩ (.int .i64 0)).setCell ⟨g, 7, none⟩ (.int .u32 0)).setCell ⟨g, 8, none⟩ (.int .u32 0)).setCell ⟨g, 9, none⟩ (.int .u32 0)).setCell ⟨g, 10, none⟩ (.int .u32 0)) = w4 at *
  clear a6 a7 a8 a9 a10 b6 b7 b8 b9 b10
  have KC := Lib.hid (chances_renew (D := fun _ => False) (lr_prb g _) (lr_lay g) (Nat.le_refl _) ⟨ps, HZ4.out, fun _ h => h.elim, Only.refl _ w4⟩)
  go_wp2_with fail
  refine KC.out.mono ?_
  rintro e w5 ⟨rfl, ps5, hr5, hf5, ho5⟩
  have he := all_fresh' hr5.2 (fun i hi => hf5 i (.inr hi))
  subst he
  have HBK5 := Lib.hid (HBK4.out.only ho5 hne)
  have HZ5 := Lib.hid hr5
  have HO5 := Lib.hid (HO4.out.trans ho5)
  have o0 : w5.cell? ⟨w.heap.size, 0, none⟩ = some (.int .i64 (lc : Int)) := HBK5.out.cell 0
  have o1 : w5.cell? ⟨w.heap.size, 1, none⟩ = some (.int .i64 (lp : Int)) := HBK5.out.cell 1
  have o2 : w5.cell? ⟨w.heap.size, 2, none⟩ = some (.int .i64 (pb : Int)) := HBK5.out.cell 2
  have o3 : w5.cell? ⟨w.heap.size, 3, none⟩ = some (.int .i64 (dict : Int)) := HBK5.out.cell 3
  clear hr5 hf5 ho5 KC HBK4 HZ4 HO4
  go_wp2_with fail
  refine (KL.out _).mono ?_
  rintro e w6 ⟨rfl, hb6⟩
  have ho6 : Only (fun _ => False) w5 w6 := Only.of_below hb6
  have HZ6 := Lib.hid ((lr_prb g _).only HZ5.out ho6 (fun _ _ h => h))
  have HO6 := Lib.hid (HO5.out.trans (ho6.mono fun _ h => h.elim))
  clear hb6 ho6 o0 o1 o2 o3 HBK5 HZ5 HO5 KL
  go_wp2_with fail
  refine (KF.out _).mono ?_
  rintro e w7 ⟨rfl, hrow, hb7⟩
  have ho7 : Only (fun _ => False) w6 w7 := Only.of_below hb7
  have hz7 := (lr_prb g _).only HZ6.out ho7 (fun _ _ h => h)
  have HO7 := Lib.hid ((HO6.out.trans (ho7.mono fun _ h => h.elim)).setCell (p := ⟨g, 1858, none⟩) (.inl rfl) (.slice (some ⟨w6.heap.size, 0, none⟩) nl nl))
  have HLB := Lib.hid (show w.heap.size ≤ w6.heap.size from HO6.out.size)
  have hgl := HZ6.out.1.lt
  have HROW : Hid (Row (w7.setCell ⟨g, 1858, none⟩ (.slice (some ⟨w6.heap.size, 0, none⟩) nl nl)) w6.heap.size (List.replicate nl 1024) nl) := Lib.hid (hrow.only ((Only.refl (fun j => j = g) w7).setCell (p := ⟨g, 1858, none⟩) (.inl rfl) _) (by omega))
  have HZ8 : Hid (Lr g (coFz (lc : Int) (lp : Int) (pb : Int) (dict : Int) eg told (.slice (some ⟨w6.heap.size, 0, none⟩) nl nl) 0 0 0 0 0 en) (w7.setCell ⟨g, 1858, none⟩ (.slice (some ⟨w6.heap.size, 0, none⟩) nl nl)) (List.replicate 1847 1024)) := Lib.hid (hz7.put 11 (by decide) (.slice (some ⟨w6.heap.size, 0, none⟩) nl nl))
  have aL : w7.cell? ⟨g, 1858, none⟩ = some lit := hz7.1.cell 11 (by decide)
  have bL := hz7.1.free 1858
  clear hrow hb7 ho7 hz7 KF HZ6 HO6 hgl
  generalize w6.heap.size = lb at *
  go_wp2_with fail
  first | go_end0 | refine bodyPost_ret (results_none rfl _ _ _) rfl ?_
  exact ⟨rfl, lb, HZ8.out, HROW.out, HLB.out, HO7.out⟩
end

section
variable {K : Koc} {w w' : World} {Ge Ge' : Option Nat} {A' : Option Addr} {c : Nat} {z : Lzs} {k : Nat} {t : Pm En}
theorem Cw.again {k' : Nat} (h : Cw K w Ge A' c z k t) (hk : PmOk okE (1847 + K.nl) k' t) : Cw K w Ge A' c z k' t := ⟨⟨h.mch.pn, h.mch.row, hk⟩, h.told, h.ap⟩
theorem LcAt.cut {g : Nat} {fs : List Value} {ps : List Nat} (h : LcAt w g fs ps) : LcAt w g fs (ps.take 1847) := h.same fun a ha => by
  rw [List.getD_eq_getElem?_getD, List.getD_eq_getElem?_getD, List.getElem?_take_of_lt ha]
def AnewPost (K : Koc) (w : World) (Ge : Option Nat) (A' : Option Addr) (c : Nat) (s : Lzs × Pm En) (k : Nat) (e : Ending) (w' : World) : Prop :=
  e = .returned (.tuple #[]) ∧ ∃ lb, w.heap.size ≤ lb ∧ Cw ⟨K.g, lb, K.nl, K.eg⟩ w' Ge A' c (reS s).1 k (reS s).2 ∧ Only (fun i => i = K.g) w w'
theorem canew_any {lc lp pb dict : Nat} (h : Cw K w Ge A' c z k t) (hset : SetOk lc lp pb dict) (h6 : lc + lp ≤ 6) (hnl : K.nl = 768 * 2 ^ (lc + lp)) (e1 : z.lc = lc) (e2 : z.lp = lp) (e3 : z.pb = pb) (e4 : z.dict = dict) :
    Calls Tryz.prog 26 #[.pointer (some ⟨K.g, 0, none⟩), .agg #[.int .i64 (lc : Int), .int .i64 (lp : Int), .int .i64 (pb : Int), .int .i64 (dict : Int)]] w (AnewPost K w Ge A' c (z, t) k) := by
  subst e1 e2 e3 e4
  obtain ⟨o1, o2, o3, o4, o5⟩ := h.old
  have hrow := h.mch.row
  have hL : Lr K.g (coFz (z.lc : Int) (z.lp : Int) (z.pb : Int) (z.dict : Int) K.eg (.slice A' z.out.length c) (.slice (some ⟨K.lb, 0, none⟩) K.nl K.nl) z.st z.r0 z.r1 z.r2 z.r3 z.ended) w (t.ps.take 1847) :=
    ⟨hrow.1.cut, by rw [List.length_take, hrow.2.2]; omega⟩
  refine (creagain_any hset h6 hL).mono ?_
  rintro e w1 ⟨rfl, lb, hr, hR, hlb, hO⟩
  refine ⟨rfl, lb, hlb, ⟨⟨h.mch.pn.only hO (fun e => h.ap.ge e.symm) (fun i hi e => (h.ap.eo i hi).1 e), ⟨?_, ?_, ?_⟩, ?_⟩, own_only' h.told hO (fun i hi e => (h.ap.ta i hi).1 e), ?_⟩, hO⟩
  · rw [← hnl] at hr
    refine hr.1.same (ps' := List.replicate t.ps.length 1024) fun a ha => ?_
    rw [List.getD_eq_getElem?_getD, List.getD_eq_getElem?_getD, List.getElem?_replicate, List.getElem?_replicate, if_pos ha, if_pos (by rw [hrow.2.2]; omega)]
  · have e : (reS (z, t)).2.ps.drop 1847 = List.replicate (768 * 2 ^ (z.lc + z.lp)) 1024 := by
      show (List.replicate t.ps.length 1024).drop 1847 = _
      rw [List.drop_replicate, hrow.2.2, hnl, Nat.add_sub_cancel_left]
    rw [e, hnl]
    exact hR
  · show (List.replicate t.ps.length 1024).length = _
    rw [List.length_replicate]
    exact hrow.2.2
  · refine ⟨fun p hp => ?_, ?_, h.mch.ok.x⟩
    · have hp : p ∈ List.replicate t.ps.length 1024 := hp
      rw [List.eq_of_mem_replicate hp]
      exact ⟨by decide, by decide⟩
    · show (List.replicate t.ps.length 1024).length = _
      rw [List.length_replicate]
      exact hrow.2.2
  · refine ⟨?_, h.ap.ge, ?_, fun i hi => ?_, fun i hi => ?_⟩
    · show K.g ≠ lb; omega
    · show lb ≠ K.eg; omega
    · have h1 := h.ap.eo i hi
      have := o4 i hi
      exact ⟨h1.1, by show i ≠ lb; omega, h1.2.2⟩
    · have h1 := h.ap.ta i hi
      have := o5 i hi
      exact ⟨h1.1, by show i ≠ lb; omega, h1.2.2.1, h1.2.2.2⟩

/-- the stream's bytes, and a coder that goes on -/
def CEndPost (K : Koc) (w : World) (Ge : Option Nat) (A' : Option Addr) (c : Nat) (s : Lzs × Pm En) (k : Nat) (x : Ending) (w' : World) : Prop :=
  ∃ B m, x = .returned (.slice B s.2.x.l m) ∧ Sl w' B s.2.x.l (bv (strB s)) ∧ Nwr w Ge (Value.slice B s.2.x.l m).ownBlock ∧ s.2.x.l ≤ m ∧ Cw K w' none A' c { s.1 with ended := false } k (finS s).2 ∧ Only (K.own Ge) w w'
set_option maxRecDepth 100000 in
set_option maxHeartbeats 4000000 in
theorem cend_any {k' : Nat} (h : Cw K w Ge A' c z k t) (hk : k' ≤ 28000000) :
    Calls Tryz.prog 51 #[.pointer (some ⟨K.g, 0, none⟩)] w (CEndPost K w Ge A' c (z, t) k') := by
  have cE := h.f.ended
  have fE := h.f.fz 1859
  have HZ1 : Hid (Cw K (w.setCell ⟨K.g, 1859, none⟩ (.bool false)) Ge A' c { z with ended := false } k t) := Lib.hid (h.put 12 (by decide) (.bool false) (z' := { z with ended := false }) rfl rfl)
  have HO1 : Hid (Only (K.own Ge) w (w.setCell ⟨K.g, 1859, none⟩ (.bool false))) := Lib.hid ((Only.refl (K.own Ge) w).cwn_put 12 (.bool false))
  clear h
  go_enter Tryz.func51, Tryz.ntmps51
  go_upto_region 2 with fail
  have hs1 : (w.setCell ⟨K.g, 1859, none⟩ (.bool false)).heap.size = w.heap.size := by simp
  generalize w.setCell ⟨K.g, 1859, none⟩ (.bool false) = w1 at *
  clear cE fE
  have c4 := HZ1.out.f.c4
  have KF := Lib.hid (finish_any HZ1.out.mch.pn (by have := HZ1.out.mch.ok.x.2; omega))
  go_wp2_with fail
  refine KF.out.mono ?_
  rintro e w2 ⟨B, m, bs, rfl, hown, hbe, hlen, hnw, hne, hpn, hO⟩
  obtain ⟨o1, o2, o3, o4, o5⟩ := HZ1.out.old
  have ap := HZ1.out.ap
  have hbs : bs = strB (z, t) := beB_of hbe hlen
  subst hbs
  have hlen : (strB (z, t)).length = t.x.l := hlen
  rw [hlen] at hown hnw hne ⊢
  have hg : ¬ pset K.eg Ge K.g := by
    rintro (e | e)
    · exact ap.ge e
    · exact (ap.eo _ e).1 rfl
  have hlb : ¬ pset K.eg Ge K.lb := by
    rintro (e | e)
    · exact ap.le e
    · exact (ap.eo _ e).2.1 rfl
  have hrow := (K.prb _ ap.gl).only HZ1.out.mch.row hO (fun i hi => by rcases hi with rfl | rfl; exact hg; exact hlb)
  have htold := own_only' HZ1.out.told hO (fun i hi e => by
    rcases e with e | e
    · exact (ap.ta i hi).2.2.1 e
    · exact (ap.ta i hi).2.2.2 e)
  have hcap : t.x.l ≤ m := by
    rcases hown.2 with ⟨e, _⟩ | ⟨g', cap, cur, hv, hb', hh, r⟩
    · injection e with _ e1 e2
      omega
    · injection hv with _ e1 e2
      have := r.1
      omega
  have HE := Lib.hid (show CEndPost K w Ge A' c (z, t) k' (.returned (.slice B t.x.l m)) w2 from
    ⟨B, m, rfl, Sl.of_own hown, fun i hi => by have := hnw i hi; rw [hs1] at this; exact this, hcap, ⟨⟨hpn, hrow, HZ1.out.mch.ok.ps, HZ1.out.mch.ok.len, okE_new hk⟩, htold, ap.gl, ap.ge, ap.le, fun i hi => (nomatch hi), fun i hi => ⟨(ap.ta i hi).1, (ap.ta i hi).2.1, (ap.ta i hi).2.2.1, fun e => (nomatch e)⟩⟩, HO1.out.trans (hO.mono fun i hi => cset_of hi)⟩)
  clear hown hbe hlen hnw hne hpn hO o1 o2 o3 o4 o5 ap hg hlb hrow htold hcap KF HZ1 HO1 c4 hs1
  go_wp2_with fail
  go_ret
  exact HE.out
end
end Go.Proofs.YtoencondpbkomaaGreat

/-
  The coder of LZMA2 in memory: the block that goes on from piece to piece, its coder, what was told.
-/
namespace Go.Proofs.YtoencondpbkomaaGreat
open Go.RowKit

/-- what stays as it is: the block, the bytes, the setting -/
structure Kq where
  kg : Nat
  A : Option Addr
  n : Nat
  c : Nat
  lc : Nat
  lp : Nat
  pb : Nat
  dict : Nat
def ckCells (Q : Kq) (K : Koc) (F how : Nat) (Ao : Option Addr) (on co : Nat) : Array Value :=
  #[.slice Q.A Q.n Q.c, .int .i64 (F : Int), .int .i64 (Q.lc : Int), .int .i64 (Q.lp : Int), .int .i64 (Q.pb : Int), .int .i64 (Q.dict : Int), .pointer (some ⟨K.g, 0, none⟩), .int .i64 (how : Int), .slice Ao on co]
/-- whose blocks these are -/
def Kow (Q : Kq) (K : Koc) (Ge Gt Go : Option Nat) : Nat → Prop := fun i => K.all Ge Gt i ∨ i = Q.kg ∨ Go = some i

structure Kst (Q : Kq) (K : Koc) (w : World) (Ge : Option Nat) (A : Option Addr) (c F : Nat) (k : Ckn) (m : Nat) (Ao : Option Addr) (co : Nat) : Prop where
  blk : Blk w Q.kg 39 (ckCells Q K F k.how Ao k.out.length co)
  cw : Cw K w Ge A c k.s.1 m k.s.2
  own : w.ownsRow 0 5 1 (.slice Ao k.out.length co) k.out.length (bv k.out)
  kap : ¬ K.all Ge (tb A k.s.1.out.length c) Q.kg
  oap : ∀ i, tb Ao k.out.length co = some i → ¬ K.all Ge (tb A k.s.1.out.length c) i ∧ i ≠ Q.kg
  nl : K.nl = 768 * 2 ^ (Q.lc + Q.lp)
/-- .. its blocks are G -/
def Kwn (Q : Kq) (w : World) (F : Nat) (k : Ckn) (m : Nat) (G : Nat → Prop) : Prop :=
  ∃ K Ge A c Ao co, Kst Q K w Ge A c F k m Ao co ∧ ∀ i, G i ↔ Kow Q K Ge (tb A k.s.1.out.length c) (tb Ao k.out.length co) i

section
variable {Q : Kq} {K : Koc} {w w' : World} {Ge : Option Nat} {A : Option Addr} {c F m : Nat} {k : Ckn} {Ao : Option Addr} {co : Nat} {G S : Nat → Prop}
theorem Kst.only (h : Kst Q K w Ge A c F k m Ao co) (hO : Only S w w') (hn : ∀ i, Kow Q K Ge (tb A k.s.1.out.length c) (tb Ao k.out.length co) i → ¬ S i) : Kst Q K w' Ge A c F k m Ao co := by
  refine ⟨h.blk.only hO (hn _ (.inr (.inl rfl))), h.cw.only hO ?_ ?_ ?_ ?_ ?_, own_only' h.own hO (fun i hi => hn i (.inr (.inr hi))), h.kap, h.oap, h.nl⟩
  · exact hn _ (.inl (.inl (.inr (.inr (.inl rfl)))))
  · exact hn _ (.inl (.inl (.inr (.inr (.inr rfl)))))
  · exact hn _ (.inl (.inl (.inl rfl)))
  · exact fun i hi => hn i (.inl (.inl (.inr (.inl hi))))
  · exact fun i hi => hn i (.inl (.inr hi))
theorem Kwn.only (h : Kwn Q w F k m G) (hO : Only S w w') (hn : ∀ i, G i → ¬ S i) : Kwn Q w' F k m G := by
  obtain ⟨K, Ge, A, c, Ao, co, hs, hG⟩ := h
  exact ⟨K, Ge, A, c, Ao, co, hs.only hO (fun i hi => hn i ((hG i).2 hi)), hG⟩
theorem Kwn.quiet (h : Kwn Q w F k m G) (hO : Only (fun _ => False) w w') : Kwn Q w' F k m G := h.only hO (fun _ _ h => h)
theorem Kst.old (h : Kst Q K w Ge A c F k m Ao co) {i : Nat} (hi : Kow Q K Ge (tb A k.s.1.out.length c) (tb Ao k.out.length co) i) : i < w.heap.size := by
  obtain ⟨o1, o2, o3, o4, o5⟩ := h.cw.old
  rcases hi with ((e | e | e | e) | e) | e | e
  · exact e ▸ o3
  · exact o4 _ e
  · exact e ▸ o1
  · exact e ▸ o2
  · exact o5 _ e
  · exact e ▸ h.blk.lt
  · exact own_old h.own e
theorem Kwn.old (h : Kwn Q w F k m G) {i : Nat} (hi : G i) : i < w.heap.size := by
  obtain ⟨K, Ge, A, c, Ao, co, hs, hG⟩ := h
  exact hs.old ((hG i).1 hi)
/-- More bytes were told, and the cell that leads to them is stored. -/
theorem Kst.put {w1 w3 : World} {A2 : Option Addr} {c2 : Nat} {xs : List UInt8} (h : Kst Q K w Ge A c F k m Ao co) (h1 : Only (fun _ => False) w w1)
    (ho : w3.ownsRow 0 5 1 (.slice A2 (k.out.length + xs.length) c2) (k.out.length + xs.length) (bv k.out ++ bv xs)) (hg : w1.grownBy w3 (Value.slice Ao k.out.length co).ownBlock)
    (hq : (Value.slice A2 (k.out.length + xs.length) c2).ownBlock = (Value.slice Ao k.out.length co).ownBlock ∨ (Value.slice A2 (k.out.length + xs.length) c2).ownBlock = some w1.heap.size) :
    Kst Q K (w3.setCell ⟨Q.kg, 8, none⟩ (.slice A2 (k.out.length + xs.length) c2)) Ge A c F ⟨k.how, k.s, k.out ++ xs⟩ m A2 c2 ∧ Blk w3 Q.kg 39 (ckCells Q K F k.how Ao k.out.length co) ∧
    (∀ i, Kow Q K Ge (tb A k.s.1.out.length c) (tb A2 (k.out ++ xs).length c2) i → Kow Q K Ge (tb A k.s.1.out.length c) (tb Ao k.out.length co) i ∨ w.heap.size ≤ i) ∧
    Only (Kow Q K Ge (tb A k.s.1.out.length c) (tb Ao k.out.length co)) w (w3.setCell ⟨Q.kg, 8, none⟩ (.slice A2 (k.out.length + xs.length) c2)) := by
  have hs1 := h1.size
  have hO3 : Only (fun i => tb Ao k.out.length co = some i) w w3 :=
    (h1.mono (fun _ h => h.elim)).trans ⟨hg.os, hg.tape, hg.output, hg.size, fun i hi hn => hg.block i hi fun e => hn e.symm⟩
  have hq' : ∀ i, tb A2 (k.out.length + xs.length) c2 = some i → tb Ao k.out.length co = some i ∨ i = w1.heap.size := by
    intro i hi
    rcases hq with e | e
    · exact .inl (e.symm.trans hi)
    · unfold tb at hi; rw [e] at hi; injection hi with hi; exact .inr hi.symm
  have hlen : (k.out ++ xs).length = k.out.length + xs.length := List.length_append
  have hOf := (Only.refl (fun j => j = Q.kg) w3).setCell (p := ⟨Q.kg, 8, none⟩) (.inl rfl) (.slice A2 (k.out.length + xs.length) c2)
  have hb3 := h.blk.only hO3 (fun e => (h.oap _ e).2 rfl)
  have hold : ∀ i, K.all Ge (tb A k.s.1.out.length c) i → i < w.heap.size := fun i hi => h.old (.inl hi)
  have hap : ∀ i, tb A2 (k.out.length + xs.length) c2 = some i → ¬ K.all Ge (tb A k.s.1.out.length c) i ∧ i ≠ Q.kg := by
    intro i hi
    rcases hq' i hi with e | e
    · exact h.oap i e
    · have := h.blk.lt
      exact ⟨fun ha => by have := hold i ha; omega, by omega⟩
  have hcw3 : Cw K w3 Ge A c k.s.1 m k.s.2 := h.cw.only hO3 (fun e => (h.oap _ e).1 (.inl (.inr (.inr (.inl rfl))))) (fun e => (h.oap _ e).1 (.inl (.inr (.inr (.inr rfl))))) (fun e => (h.oap _ e).1 (.inl (.inl rfl))) (fun i hi e => (h.oap _ e).1 (.inl (.inr (.inl hi)))) (fun i hi e => (h.oap _ e).1 (.inr hi))
  refine ⟨⟨?_, hcw3.only hOf ?_ ?_ ?_ ?_ ?_, ?_, h.kap, ?_, h.nl⟩, hb3, ?_, ?_⟩
  · rw [hlen]
    exact hb3.put 8 _
  · exact fun e => h.kap (e ▸ .inl (.inr (.inr (.inl rfl))))
  · exact fun e => h.kap (e ▸ .inl (.inr (.inr (.inr rfl))))
  · exact fun e => h.kap (e ▸ .inl (.inl rfl))
  · exact fun i hi e => h.kap (e ▸ .inl (.inr (.inl hi)))
  · exact fun i hi e => h.kap (e ▸ .inr hi)
  · show (w3.setCell _ _).ownsRow 0 5 1 (.slice A2 (k.out ++ xs).length c2) (k.out ++ xs).length (bv (k.out ++ xs))
    rw [hlen, bv_append]
    exact own_only' ho hOf (fun i hi e => (hap i hi).2 e)
  · show ∀ i, tb A2 (k.out ++ xs).length c2 = some i → _
    rw [hlen]
    exact hap
  · rw [hlen]
    rintro i (e | e | e)
    · exact .inl (.inl e)
    · exact .inl (.inr (.inl e))
    · rcases hq' i e with e | e
      · exact .inl (.inr (.inr e))
      · exact .inr (by omega)
  · exact (hO3.mono (fun i hi => .inr (.inr hi))).setCell (p := ⟨Q.kg, 8, none⟩) (.inl (.inr (.inl rfl))) _
end
end Go.Proofs.YtoencondpbkomaaGreat

/-
  What is owned: a call leaves all but its own blocks as they were.
-/
namespace Go.Proofs.YtoencondpbkomaaGreat
open Go.RowKit

/-- what a call leaves: blocks that are owned then were so ahead, or are new; no other has turned -/
def OwnPost (Own : World → (Nat → Prop) → Prop) (w : World) (G : Nat → Prop) (v : Value) (x : Ending) (w' : World) : Prop :=
  x = .returned v ∧ ∃ G', Own w' G' ∧ (∀ i, G' i → G i ∨ w.heap.size ≤ i) ∧ Only G w w'

end Go.Proofs.YtoencondpbkomaaGreat

/-
  append onto a row of the call's own, which block it is then.
-/
namespace Go.Proofs.YtoencondpbkomaaGreat
open Go.RowKit

section
variable {P : Program} (w : World)
theorem wpList_appO {ops : Array Oper} {rest : List Oper} {o : Oper} {a : Act} {Q : Exit → Act → World → Prop} (hgd : o.guard = none) (s x : Operand) (t : TypeId)
    (ho : o.op = .call { callee := .builtin .append, args := #[s, x], argTypes := #[t, t] })
    (base : Nat) (e : TypeId) (i : TypeInfo) (z : Value) (bytes : Nat) (ht : P.underlying t = some (.slice e)) (hi : P.info? e = some i) (hz : i.zero = some z)
    (hsize : i.size = 1) (hby : i.bytes = bytes) (hzs : z.cells.size = 1)
    (v : Value) (n : Nat) (xs : List Value) (hs : a.eval s = v) (hown : w.ownsRow base e 1 v n xs)
    (A : Option Addr) (m c : Nat) (news : List Value) (hx : a.eval x = .slice A m c) (hr : Sl w A m news) (h1 : ∀ u ∈ news, u.oneCell' = true)
    (hbytes : (n + m) * bytes ≤ 140737488355328) (hb0 : 0 < bytes) (hbase : base ≤ w.heap.size)
    (h : ∀ A' c' w', w'.ownsRow base e 1 (.slice A' (n + m) c') (n + m) (xs ++ news) → w.grownBy w' v.ownBlock → ((Value.slice A' (n + m) c').ownBlock = v.ownBlock ∨ (Value.slice A' (n + m) c').ownBlock = some w.heap.size) → wpList P ops Q rest (a.put o.dst (.slice A' (n + m) c')) w') : wpList P ops Q (o :: rest) a w :=
  wpList_plain hgd fun K hK => by
    obtain ⟨v', w', hrun, h2, h3, h4⟩ := run_app (P := P) w base t o.type e i z bytes ht hi hz hsize hby hzs v n xs hown A m c news hr h1 hbytes hb0 hbase
    obtain ⟨A', c', rfl, h2⟩ := own_form h2
    unfold Oper.wp execOp
    simp only [ho, resolve, invoke, builtin, Sem.run_bind, Sem.run_pure, Result.andThen_ok, List.map_toArray, List.map_cons, List.map_nil, hs, hx, hrun]
    exact hK _ _ (h A' c' w' h2 h3 h4)
end

end Go.Proofs.YtoencondpbkomaaGreat

/-
  The coder of LZMA2: what it puts of a chunk.
-/
namespace Go.Proofs.YtoencondpbkomaaGreat
open Go.RowKit

theorem cnt_val {n N : Nat} (hN : N = n - 1) (h : n ≤ 65536) : (#[Value.int .u8 ((N : Int) / 256 % 256), Value.int .u8 ((N : Int) % 256)] : Array Value) = (bv (cntB n)).toArray := by
  subst hN
  have h1 : ((UInt8.ofNat ((n - 1) / 256)).toNat : Int) = ((n - 1 : Nat) : Int) / 256 % 256 := by rw [UInt8.toNat_ofNat']; omega
  have h2 : ((UInt8.ofNat ((n - 1) % 256)).toNat : Int) = ((n - 1 : Nat) : Int) % 256 := by rw [UInt8.toNat_ofNat']; omega
  show _ = #[Value.int .u8 ((UInt8.ofNat ((n - 1) / 256)).toNat : Int), Value.int .u8 ((UInt8.ofNat ((n - 1) % 256)).toNat : Int)]
  rw [h1, h2]
theorem sl_b1 (w : World) (x : UInt8) : Sl (w.alloc (.cells #[.int .u8 (x.toNat : Int)] 5)) (some ⟨w.heap.size, 0, none⟩) 1 (bv [x]) := sl_lit w 5 (bv [x]).toArray (by show 1 ≤ 1000000000; decide)

section
variable {Q : Kq} {w : World} {F m : Nat} {k : Ckn} {G : Nat → Prop}
/-- what was put is there, and the cell leads to it -/
theorem Kst.puts {K : Koc} {Ge : Option Nat} {A : Option Addr} {c : Nat} {Ao : Option Addr} {co : Nat} {w1 w3 : World} {A2 : Option Addr} {c2 n : Nat} {xs : List UInt8} (h : Kst Q K w Ge A c F k m Ao co)
    (hG : ∀ i, G i ↔ Kow Q K Ge (tb A k.s.1.out.length c) (tb Ao k.out.length co) i) (hl : xs.length = n) (h1 : Only (fun _ => False) w w1)
    (ho : w3.ownsRow 0 5 1 (.slice A2 (k.out.length + n) c2) (k.out.length + n) (bv k.out ++ bv xs)) (hg : w1.grownBy w3 (Value.slice Ao k.out.length co).ownBlock)
    (hq : (Value.slice A2 (k.out.length + n) c2).ownBlock = (Value.slice Ao k.out.length co).ownBlock ∨ (Value.slice A2 (k.out.length + n) c2).ownBlock = some w1.heap.size) :
    (w3.cell? ⟨Q.kg, 8, none⟩ = some (.slice Ao k.out.length co) ∧ w3.frozen? ⟨Q.kg, 8, none⟩ = false) ∧
    OwnPost (fun w G => Kwn Q w F ⟨k.how, k.s, k.out ++ xs⟩ m G) w G (.tuple #[]) (.returned (.tuple #[])) (w3.setCell ⟨Q.kg, 8, none⟩ (.slice A2 (k.out.length + n) c2)) := by
  subst hl
  obtain ⟨p1, p2, p3, p4⟩ := h.put h1 ho hg hq
  exact ⟨⟨p2.cell 8, p2.free 8⟩, rfl, _, ⟨K, Ge, A, c, A2, c2, p1, fun i => Iff.rfl⟩, fun i hi => (p3 i hi).imp (hG i).2 id, p4.mono fun i hi => (hG i).2 hi⟩
set_option maxRecDepth 100000 in
set_option maxHeartbeats 4000000 in
theorem kcount_any {n : Nat} (h : Kwn Q w F k m G) (hn : 1 ≤ n) (hn2 : n ≤ 65536) (ho : k.out.length ≤ 100000000) :
    Calls Tryz.prog 52 #[.pointer (some ⟨Q.kg, 0, none⟩), .int .i64 (n : Int)] w (OwnPost (fun w G => Kwn Q w F ⟨k.how, k.s, k.out ++ cntB n⟩ m G) w G (.tuple #[])) := by
  obtain ⟨K, Ge, A, c, Ao, co, hs, hG⟩ := h
  obtain ⟨i, hi, hz0, hz1, hz2⟩ := info_parts info_u8
  obtain ⟨N, hN⟩ : ∃ N, N = n - 1 := ⟨_, rfl⟩
  have e1 : IntKind.i64.wrap ((n : Int) - 1) = (N : Int) := by rw [IntWalk.i64_in _ (by omega)]; omega
  have c8 : w.cell? ⟨Q.kg, 8, none⟩ = some (.slice Ao k.out.length co) := hs.blk.cell 8
  have HS := Lib.hid hs
  have HG := Lib.hid hG
  have HCV := Lib.hid (cnt_val hN hn2)
  clear hs hG hn hn2 hN
  go_enter Tryz.func52, Tryz.ntmps52
  go_wp2_with (first
    | (at_builtin; refine wpList_appO _ rfl _ _ 22 rfl 0 5 i _ 1 Tryz.underlying22 hi hz0 hz1 hz2 rfl _ k.out.length (bv k.out) rfl (HS.out.own.alloc _) _ 2 2 (bv (cntB n)) rfl (by rw [HCV.out]; exact sl_lit w 5 (bv (cntB n)).toArray (by show 2 ≤ 1000000000; decide)) (bv_one _) (by omega) (by decide) (Nat.zero_le _) ?_)
    | fail)
  intro A2 c2 w3 ho3 hg3 hv3
  obtain ⟨⟨d8, f8⟩, hp⟩ := HS.out.puts HG.out (xs := cntB n) (n := 2) rfl ((Only.refl _ w).alloc _) ho3 hg3 (by simpa using hv3)
  have HP := Lib.hid hp
  clear ho3 hg3 hv3 hp c8
  go_wp2_with fail
  first | go_end0 | refine bodyPost_ret (results_none rfl _ _ _) rfl ?_
  exact HP.out
end
end Go.Proofs.YtoencondpbkomaaGreat
