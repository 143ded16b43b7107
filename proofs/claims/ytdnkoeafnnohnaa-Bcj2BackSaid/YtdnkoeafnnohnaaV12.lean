/-
  LzNum, Prb: put together.
-/
import Derived.Test.YtdnkoeafnnohnaaV11
import Derived.Test.YtdnkoeafnnohnaaV06
set_option linter.unusedVariables false
set_option linter.unusedSimpArgs false
/-
  The packets of LZMA as numbers: a packet whole, a stream, its bounds.
-/
namespace Go.Proofs.Ytdnkoeafnnohnaa

section
variable {σ : Type} {M : Mach σ} {ok : Nat → σ → Prop} {t : Pm σ} {z : Lzs}
theorem want_byte (v : UInt8) (i : Nat) : ∃ b : Nat, want (v.toNat : Int) i = (b : Int) ∧ b ≤ 1 := ⟨bitOf v.toNat i, want_nat _ _, bitOf_le _ _⟩
theorem lgStep_ok (Z : MachOk M ok) {L k a j : Nat} {y b : Nat} {s : Lg σ} (ht : PmOk ok L (k + 1) s.t) (ha : a + 768 ≤ L) (h0 : s.m < 2 ^ (j + 1)) (hj : j < 8) (hy : y ≤ 1) (hb : b ≤ 1) :
    PmOk ok L k (lgStep M a (y : Int) (b : Int) s).t ∧ 2 * s.m ≤ (lgStep M a (y : Int) (b : Int) s).m ∧ (lgStep M a (y : Int) (b : Int) s).m ≤ 2 * s.m + 1 := by
  have hp : 2 ^ (j + 1) ≤ 256 := Nat.le_trans (Nat.pow_le_pow_right (by omega) (show j + 1 ≤ 8 by omega)) (by decide)
  have hm : M.may (b : Int) := fun _ => by omega
  unfold lgStep
  split
  · obtain ⟨h1, h2⟩ := bitP_ok Z ht (a := a + 256 * (1 + (y : Int).toNat) + s.m) (by rw [Int.toNat_natCast]; omega) hm
    exact ⟨h2, Nat.le_add_right _ _, by show 2 * s.m + _ ≤ _; omega⟩
  · obtain ⟨h1, h2⟩ := bitP_ok Z ht (a := a + s.m) (by omega) hm
    exact ⟨h2, Nat.le_add_right _ _, by show 2 * s.m + _ ≤ _; omega⟩
theorem litG_ok (Z : MachOk M ok) {L k a : Nat} {o v : UInt8} {same : Bool} (ht : PmOk ok L (k + 8) t) (ha : a + 768 ≤ L) :
    ∀ j, j ≤ 8 → PmOk ok L (k + 8 - j) (litG M t a o v same j).t ∧ 2 ^ j ≤ (litG M t a o v same j).m ∧ (litG M t a o v same j).m < 2 ^ (j + 1)
  | 0, _ => ⟨ht, Nat.le_refl _, by show 1 < 2 ^ 1; decide⟩
  | j + 1, hj => by
    obtain ⟨h1, h2, h3⟩ := litG_ok Z ht ha j (by omega)
    obtain ⟨y, hy, hy1⟩ := want_byte o (7 - j)
    obtain ⟨b, hb, hb1⟩ := want_byte v (7 - j)
    show PmOk ok L _ (lgStep M a (want (o.toNat : Int) (7 - j)) (want (v.toNat : Int) (7 - j)) _).t ∧ _ ≤ (lgStep M a _ _ _).m ∧ (lgStep M a _ _ _).m < _
    rw [hy, hb]
    obtain ⟨k1, k2, k3⟩ := lgStep_ok Z (k := k + 8 - (j + 1)) (a := a) (j := j) (by rw [show k + 8 - (j + 1) + 1 = k + 8 - j by omega]; exact h1) ha h3 (by omega) hy1 hb1
    refine ⟨k1, ?_, ?_⟩
    · rw [Nat.pow_succ]; omega
    · rw [Nat.pow_succ 2 (j + 1)]; omega
/-- settings that may be, and what else keeps the numbers small -/
structure ZFine (z : Lzs) (L : Nat) : Prop where
  lc : z.lc ≤ 8
  lp : z.lp ≤ 4
  pb : z.pb ≤ 4
  dict : z.dict < 4294967296
  out : z.out.length ≤ 1000000
  st : z.st ≤ 11
  r0 : z.r0 < 4294967296
  r1 : z.r1 < 4294967296
  r2 : z.r2 < 4294967296
  r3 : z.r3 < 4294967296
  len : L = 1847 + 768 * 2 ^ (z.lc + z.lp)
theorem slotGo_spec : ∀ (f x c : Nat), x < 2 ^ (f + 2) → ∃ m, slotGo f (x, c) = (x / 2 ^ m, c + m) ∧ x / 2 ^ m < 4 ∧ (m = 0 ∨ 2 ≤ x / 2 ^ m) ∧ m ≤ f
  | 0, x, c, h => ⟨0, by simp [slotGo], by simpa using h, .inl rfl, Nat.le_refl _⟩
  | f + 1, x, c, h => by
    by_cases h4 : 4 ≤ x
    · obtain ⟨m, h1, h2, h3, h5⟩ := slotGo_spec f (x / 2) (c + 1) (by rw [show f + 1 + 2 = (f + 2) + 1 by omega, Nat.pow_succ] at h; omega)
      have hd : x / 2 / 2 ^ m = x / 2 ^ (m + 1) := by rw [Nat.div_div_eq_div_mul, Nat.pow_succ, Nat.mul_comm]
      rw [hd] at h1 h2 h3
      refine ⟨m + 1, ?_, h2, .inr ?_, by omega⟩
      · show (if 4 ≤ x then slotGo f (x / 2, c + 1) else (x, c)) = _
        rw [if_pos h4, h1, show c + 1 + m = c + (m + 1) by omega]
      · rcases h3 with h3 | h3
        · subst h3
          show 2 ≤ x / 2 ^ 1
          omega
        · exact h3
    · refine ⟨0, ?_, by simp; omega, .inl rfl, Nat.zero_le _⟩
      show (if 4 ≤ x then slotGo f (x / 2, c + 1) else (x, c)) = _
      rw [if_neg h4]
      simp
/-- a coder tells what is wanted -/
theorem tree_tell {M : Mach σ} {ok : Nat → σ → Prop} (h : MachOk M ok) (he : M.enc = true) {t : Pm σ} {a n v : Nat} : ∀ j, j ≤ n → (treeG M t a n (v : Int) j).m = 2 ^ j + v % 2 ^ n / 2 ^ (n - j)
  | 0, _ => by
    rw [Nat.sub_zero, Nat.div_eq_of_lt (Nat.mod_lt _ (Nat.two_pow_pos n))]
    rfl
  | j + 1, hj => by
    have ih := tree_tell h he (t := t) (a := a) (n := n) (v := v) j (by omega)
    show 2 * (treeG M t a n (v : Int) j).m + (bitP M _ _ (want (v : Int) (n - 1 - j))).1 = _
    have hb : (bitP M (treeG M t a n (v : Int) j).t (a + (treeG M t a n (v : Int) j).m) (want (v : Int) (n - 1 - j))).1 = bitOf v (n - 1 - j) := by
      rw [want_nat]
      exact (h.tell he).trans (Int.toNat_natCast _)
    rw [hb, ih, Nat.pow_succ, ← top_bits v n j (by omega)]
    omega
end


/-- a packet that is wanted -/
structure Pk where
  kind : Int
  dist : Nat
  len : Int
  byte : UInt8

def Lzs.push (z : Lzs) (b : UInt8) : Lzs := { z with out := z.out ++ [b] }
/-- bytes at the first distance, one behind the other: how many, and the state then -/
def copyG : Nat → Nat → Lzs → Nat × Lzs
  | 0, n, z => (n, z)
  | f + 1, n, z => if z.has z.r0 = true then copyG f (n + 1) (z.push (z.back z.r0)) else (n, { z with bad := true })
theorem copyG_go {f n : Nat} {z : Lzs} (h : z.has z.r0 = true) : copyG (f + 1) n z = copyG f (n + 1) (z.push (z.back z.r0)) := if_pos h
theorem copyG_stop {f n : Nat} {z : Lzs} (h : ¬ z.has z.r0 = true) : copyG (f + 1) n z = (n, { z with bad := true }) := if_neg h

def aft (a b s : Nat) : Nat := if s < 7 then a else b
def Lzs.rep (z : Lzs) (j : Nat) : Nat := if j = 0 then z.r0 else if j = 1 then z.r1 else if j = 2 then z.r2 else z.r3
/-- the distances where the one with the number j is used again -/
def Lzs.again (z : Lzs) (j : Nat) : Lzs := { z with r0 := z.rep j, r1 := if j = 0 then z.r1 else z.r0, r2 := if j ≤ 1 then z.r2 else z.r1, r3 := if j ≤ 2 then z.r3 else z.r2 }

section
variable {σ : Type} (M : Mach σ)

/-- behind the numbers of a packet: the bytes -/
def tailP (many : Nat) (z : Lzs) (t : Pm σ) : Nat × Lzs × Pm σ :=
  if (z.bad || M.bad t.x || z.ended) = true then (0, { z with bad := z.bad || M.bad t.x }, t)
  else ((copyG many 0 z).1, (copyG many 0 z).2, t)
def packL (b : Nat × Pm σ) (z : Lzs) : Nat × Lzs × Pm σ :=
  if M.bad b.2.x = true then (0, { z with st := litSt z.st, bad := true }, b.2) else (1, { z with st := litSt z.st }.push (UInt8.ofNat b.1), b.2)
def packD (l : Nat) (b : Nat × Pm σ) (z : Lzs) : Nat × Lzs × Pm σ := tailP M (l + 2) { z with r0 := b.1, ended := decide (b.1 = 4294967295) && !M.bad b.2.x } b.2
def packM (b : Nat × Pm σ) (z : Lzs) (want : Nat) : Nat × Lzs × Pm σ :=
  packD M b.1 (distP M b.2 b.1 want) { z with r0 := 0, r1 := z.r0, r2 := z.r1, r3 := z.r2, st := aft 7 10 z.st }
def packR (b : Nat × Pm σ) (z : Lzs) (j : Nat) : Nat × Lzs × Pm σ := tailP M (b.1 + 2) { z.again j with st := aft 8 11 z.st } b.2
def packK (kb : Nat × Bool × Pm σ) (z : Lzs) (s : Nat) (p : Pk) : Nat × Lzs × Pm σ :=
  if kb.1 = 0 then packL M (litP M { z with bad := z.bad || kb.2.1 } kb.2.2 p.byte) { z with bad := z.bad || kb.2.1 }
  else if kb.1 = 1 then packM M (lenP M kb.2.2 819 s (if p.kind = 7 then 0 else p.len - 2)) { z with bad := z.bad || kb.2.1 } (if p.kind = 7 then 4294967295 else p.dist)
  else if kb.1 = 6 then tailP M 1 { z with bad := z.bad || kb.2.1, st := aft 9 11 z.st } kb.2.2
  else packR M (lenP M kb.2.2 1333 s (p.len - 2)) { z with bad := z.bad || kb.2.1 } (kb.1 - 2)
def packP (z : Lzs) (t : Pm σ) (p : Pk) : Nat × Lzs × Pm σ :=
  packK M (kindP M t (decide (z.out.length = 0)) z.st (z.out.length % 2 ^ z.pb) p.kind) z (z.out.length % 2 ^ z.pb) p

end

section
variable {σ : Type} {M : Mach σ} {ok : Nat → σ → Prop}

/-- what is wanted of a coder may be -/
def PkMay (M : Mach σ) (z : Lzs) (p : Pk) : Prop :=
  M.enc = true → 0 ≤ p.kind ∧ p.kind ≤ 7 ∧ (z.out.length = 0 → p.kind = 0 ∨ p.kind = 1 ∨ p.kind = 7) ∧ (1 ≤ p.kind ∧ p.kind ≤ 5 → 2 ≤ p.len)
/-- its numbers -/
structure PkFine (p : Pk) : Prop where
  k0 : -1000000 ≤ p.kind
  k1 : p.kind ≤ 1000000
  d : p.dist < 4294967296
/-- a length that is used may be -/
def PkLen (M : Mach σ) (p : Pk) : Prop := (-900000 ≤ p.len ∧ p.len ≤ 900000) ∨ (M.enc = true ∧ (p.kind = 0 ∨ p.kind = 6 ∨ p.kind = 7))

/-- the bounds that copying keeps -/
structure Like (z z' : Lzs) : Prop where
  lc : z'.lc = z.lc
  lp : z'.lp = z.lp
  pb : z'.pb = z.pb
  dict : z'.dict = z.dict
theorem Like.refl (z : Lzs) : Like z z := ⟨rfl, rfl, rfl, rfl⟩
theorem Like.trans {a b c : Lzs} (h : Like a b) (k : Like b c) : Like a c := ⟨k.lc.trans h.lc, k.lp.trans h.lp, k.pb.trans h.pb, k.dict.trans h.dict⟩

/-- like ZFine, with room for so many bytes more -/
structure ZNear (z : Lzs) (L n : Nat) : Prop where
  lc : z.lc ≤ 8
  lp : z.lp ≤ 4
  pb : z.pb ≤ 4
  dict : z.dict < 4294967296
  out : z.out.length ≤ n
  st : z.st ≤ 11
  r0 : z.r0 < 4294967296
  r1 : z.r1 < 4294967296
  r2 : z.r2 < 4294967296
  r3 : z.r3 < 4294967296
  len : L = 1847 + 768 * 2 ^ (z.lc + z.lp)
theorem ZNear.more {z : Lzs} {L n m : Nat} (h : ZNear z L n) (hn : n ≤ m) : ZNear z L m := ⟨h.lc, h.lp, h.pb, h.dict, Nat.le_trans h.out hn, h.st, h.r0, h.r1, h.r2, h.r3, h.len⟩

theorem copyG_near {L : Nat} : ∀ (f n N : Nat) {z : Lzs}, ZNear z L N → ZNear (copyG f n z).2 L (N + f) ∧ (copyG f n z).1 ≤ n + f
  | 0, n, N, z, h => ⟨h, Nat.le_refl _⟩
  | f + 1, n, N, z, h => by
    by_cases hz : z.has z.r0 = true
    · rw [copyG_go hz]
      have h2 : ZNear (z.push (z.back z.r0)) L (N + 1) := ⟨h.lc, h.lp, h.pb, h.dict, by show (z.out ++ [_]).length ≤ _; have := h.out; simp; omega, h.st, h.r0, h.r1, h.r2, h.r3, h.len⟩
      obtain ⟨a, b⟩ := copyG_near f (n + 1) (N + 1) h2
      exact ⟨a.more (by omega), by omega⟩
    · rw [copyG_stop hz]
      exact ⟨⟨h.lc, h.lp, h.pb, h.dict, by have := h.out; show z.out.length ≤ _; omega, h.st, h.r0, h.r1, h.r2, h.r3, h.len⟩, by dsimp only; omega⟩
/-- the numbers that the lengths are wanted of -/
def lenM (p : Pk) : Int := if p.kind = 7 then 0 else p.len - 2
def distM (p : Pk) : Nat := if p.kind = 7 then 4294967295 else p.dist

end

/-- all is read, and the code is 0 -/
def leftD : Dc → Bool
  | none => false
  | some (_, k, rest) => decide (k = 0) && decide (rest = [])

/-- a setting that may be -/
def maySet (a b c d : Int) : Bool := decide (0 ≤ a ∧ a ≤ 8 ∧ 0 ≤ b ∧ b ≤ 4 ∧ 0 ≤ c ∧ c ≤ 4 ∧ 4096 ≤ d ∧ d ≤ 4294967295)
def probsOf (a b c d : Int) : Int := if maySet a b c d = true then 1847 + 768 * ((2 ^ (a + b).toNat : Nat) : Int) else 0
/-- a new one's state -/
def Lzs.start (lc lp pb dict : Nat) : Lzs := ⟨lc, lp, pb, dict, [], 0, 0, 0, 0, 0, false, false⟩
/-- settings that may be -/
def SetOk (lc lp pb dict : Nat) : Prop := lc ≤ 8 ∧ lp ≤ 4 ∧ pb ≤ 4 ∧ 4096 ≤ dict ∧ dict < 4294967296
def probsN (lc lp : Nat) : Nat := 1847 + 768 * 2 ^ (lc + lp)
def pk0 : Pk := ⟨0, 0, 0, 0⟩
/-- whether a packet was the last that may be -/
def stopD (size : Int) (r : Nat × Lzs × Pm Dc) : Bool := r.2.1.bad || (r.2.1.ended || (decM.bad r.2.2.x || decide (size < (r.2.1.out.length : Int))))
/-- packets, until there are so many bytes -/
def upG (size : Int) : Nat → Lzs → Pm Dc → Option (Lzs × Pm Dc)
  | 0, z, t => some (z, t)
  | f + 1, z, t => if (z.out.length : Int) < size then (if stopD size (packP decM z t pk0) = true then none else upG size f (packP decM z t pk0).2.1 (packP decM z t pk0).2.2) else some (z, t)
/-- whether the stream doesn't end behind one packet more -/
def endD (n : Nat) (r : Nat × Lzs × Pm Dc) : Bool := !r.2.1.ended || (r.2.1.bad || (decide (r.2.1.out.length ≠ n) || !leftD r.2.2.x))
def finD (z : Lzs) (t : Pm Dc) : Option (List UInt8) :=
  if leftD t.x = true then some z.out
  else if endD z.out.length (packP decM z t pk0) = true then none else some (packP decM z t pk0).2.1.out
def finU : Option (Lzs × Pm Dc) → Option (List UInt8)
  | none => none
  | some zt => finD zt.1 zt.2
/-- what a stream of a size is -/
def unpackN (bs : List UInt8) (lc lp pb dict : Nat) (size : Int) : Option (List UInt8) :=
  finU (upG size size.toNat (Lzs.start lc lp pb dict) ⟨List.replicate (probsN lc lp) 1024, started bs⟩)

end Go.Proofs.Ytdnkoeafnnohnaa

/-
  Probabilities in memory, wherever each lies.
-/
namespace Go.Proofs.Ytdnkoeafnnohnaa
open Go.RowKit

/-- Probabilities in memory: where each lies (ad), in which blocks (B), so many (L). -/
structure Prb (R : World → List Nat → Prop) (B : Nat → Prop) (ad : Nat → Nat × Nat) (L : Nat) : Prop where
  blk : ∀ {a}, a < L → B (ad a).1
  cell : ∀ {w ps a}, R w ps → a < L → w.cell? ⟨(ad a).1, (ad a).2, none⟩ = some (.int .u16 ((ps.getD a 0 : Nat) : Int))
  free : ∀ {w ps a}, R w ps → a < L → w.frozen? ⟨(ad a).1, (ad a).2, none⟩ = false
  put : ∀ {w ps a}, R w ps → a < L → ∀ q : Nat, R (w.setCell ⟨(ad a).1, (ad a).2, none⟩ (.int .u16 (q : Int))) (ps.set a q)
  only : ∀ {w w' ps} {S : Nat → Prop}, R w ps → Only S w w' → (∀ i, B i → ¬ S i) → R w' ps
  len : ∀ {w ps}, R w ps → ps.length = L
  old : ∀ {w ps i}, R w ps → B i → i < w.heap.size
end Go.Proofs.Ytdnkoeafnnohnaa
