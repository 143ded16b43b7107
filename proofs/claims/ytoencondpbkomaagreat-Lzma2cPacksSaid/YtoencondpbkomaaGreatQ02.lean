/-
  RcPure, PcPure, RdDec, RdEven, Prow, RdTell, PcGive, RdNums, RdRev, PcEven: put together.
-/
import Derived.Test.YtoencondpbkomaaGreatQ01
import Derived.Deep.RegionLaw
import Derived.Deep.RegionHeld3
import Derived.StillTailTactics
import Derived.Test.YtoencondpbkomaaGreatRows
import Derived.LoopN
import Derived.LoopTactic
set_option linter.unusedVariables false
set_option linter.unusedSimpArgs false
/-
  The range coder as numbers: its bytes as one great number, how many they are, its range; and what the decoder tells of what it coded.
-/
namespace Go.Proofs.YtoencondpbkomaaGreat

structure En where
  n : Nat
  l : Nat
  r : Nat

def En.new : En := ⟨0, 5, 4294967295⟩
/-- evened out -/
def En.even (e : En) : En := if e.r < 16777216 then ⟨e.n * 256, e.l + 1, e.r * 256⟩ else e
def En.bit (e : En) (p b : Nat) : En := if b = 0 then En.even ⟨e.n, e.l, e.r / 2048 * p⟩ else En.even ⟨e.n + e.r / 2048 * p, e.l, e.r - e.r / 2048 * p⟩
def En.one (e : En) (b : Nat) : En := if b = 0 then En.even ⟨e.n, e.l, e.r / 2⟩ else En.even ⟨e.n + e.r / 2, e.l, e.r / 2⟩

/-- its number and its range are within the bytes, a first byte 0 left -/
def EnIn (e : En) : Prop := 5 ≤ e.l ∧ e.n + e.r ≤ 4294967295 * 256 ^ (e.l - 5)
def EnOk (e : En) : Prop := 16777216 ≤ e.r ∧ e.r < 4294967296 ∧ EnIn e
theorem enOk_new : EnOk En.new := ⟨by decide, by decide, by decide, by decide⟩

/-- e' is further on than e -/
def Reach (e e' : En) : Prop := ∃ k, e'.l = e.l + k ∧ e.n * 256 ^ k ≤ e'.n ∧ e'.n + e'.r ≤ (e.n + e.r) * 256 ^ k
theorem Reach.refl (e : En) : Reach e e := ⟨0, rfl, by simp, by simp⟩
theorem Reach.trans {a b c : En} (h : Reach a b) (k : Reach b c) : Reach a c := by
  obtain ⟨x, h1, h2, h3⟩ := h
  obtain ⟨y, k1, k2, k3⟩ := k
  refine ⟨x + y, by omega, ?_, ?_⟩
  · rw [Nat.pow_add, ← Nat.mul_assoc]
    exact Nat.le_trans (Nat.mul_le_mul_right _ h2) k2
  · rw [Nat.pow_add, ← Nat.mul_assoc]
    exact Nat.le_trans k3 (Nat.mul_le_mul_right _ h3)
theorem reach_even (e : En) : Reach e e.even := by
  unfold En.even
  split
  · exact ⟨1, rfl, by simp, by show e.n * 256 + e.r * 256 ≤ _; rw [Nat.pow_one, Nat.add_mul]; omega⟩
  · exact Reach.refl e
theorem enIn_even {e : En} (h : EnIn e) : EnIn e.even := by
  unfold En.even
  split
  · obtain ⟨h1, h2⟩ := h
    refine ⟨by show 5 ≤ e.l + 1; omega, ?_⟩
    show e.n * 256 + e.r * 256 ≤ 4294967295 * 256 ^ (e.l + 1 - 5)
    rw [show e.l + 1 - 5 = (e.l - 5) + 1 by omega, Nat.pow_succ, ← Nat.mul_assoc]
    omega
  · exact h
theorem enOk_even {e : En} (h : EnIn e) (h0 : 65536 ≤ e.r) (h1 : e.r < 4294967296) : EnOk e.even := by
  refine ⟨?_, ?_, enIn_even h⟩
  · unfold En.even
    split
    · show 16777216 ≤ e.r * 256; omega
    · omega
  · unfold En.even
    split
    · show e.r * 256 < 4294967296; omega
    · exact h1

theorem reach_low {e : En} {z : Nat} (hz : z ≤ e.r) : Reach e ⟨e.n, e.l, z⟩ := ⟨0, rfl, by simp, by simp; omega⟩
theorem reach_high {e : En} {z y : Nat} (hz : z + y ≤ e.r) : Reach e ⟨e.n + z, e.l, y⟩ := ⟨0, rfl, by simp, by simp; omega⟩

theorem bit_reach {e : En} {p b : Nat} (h : EnOk e) (hp : POk p) : Reach e (e.bit p b) := by
  obtain ⟨b0, b1⟩ := bound_in h.1 h.2.1 hp
  unfold En.bit
  split
  · exact (reach_low (by omega)).trans (reach_even _)
  · exact (reach_high (by omega)).trans (reach_even _)
theorem bit_ok {e : En} {p b : Nat} (h : EnOk e) (hp : POk p) : EnOk (e.bit p b) := by
  obtain ⟨b0, b1⟩ := bound_in h.1 h.2.1 hp
  obtain ⟨h0, h1, h2, h3⟩ := h
  unfold En.bit
  split
  · exact enOk_even ⟨h2, by show e.n + e.r / 2048 * p ≤ 4294967295 * 256 ^ (e.l - 5); omega⟩ (by show 65536 ≤ e.r / 2048 * p; omega) (by show e.r / 2048 * p < _; omega)
  · exact enOk_even ⟨h2, by show e.n + e.r / 2048 * p + (e.r - e.r / 2048 * p) ≤ 4294967295 * 256 ^ (e.l - 5); omega⟩ (by show 65536 ≤ e.r - e.r / 2048 * p; omega) (by show e.r - e.r / 2048 * p < _; omega)
theorem one_reach {e : En} {b : Nat} : Reach e (e.one b) := by
  unfold En.one
  split
  · exact (reach_low (Nat.div_le_self _ _)).trans (reach_even _)
  · exact (reach_high (by omega)).trans (reach_even _)
theorem one_ok {e : En} {b : Nat} (h : EnOk e) : EnOk (e.one b) := by
  obtain ⟨h0, h1, h2, h3⟩ := h
  unfold En.one
  split
  · exact enOk_even ⟨h2, by show e.n + e.r / 2 ≤ 4294967295 * 256 ^ (e.l - 5); omega⟩ (by show 65536 ≤ e.r / 2; omega) (by show e.r / 2 < _; omega)
  · exact enOk_even ⟨h2, by show e.n + e.r / 2 + e.r / 2 ≤ 4294967295 * 256 ^ (e.l - 5); omega⟩ (by show 65536 ≤ e.r / 2; omega) (by show e.r / 2 < _; omega)

/-- the bytes that a coder gives in the end -/
structure Ends (bs : List UInt8) (f : En) : Prop where
  num : be bs = f.n
  len : bs.length = f.l
  pos : 0 < f.r

/-- the decoder that has come as far as e -/
def decAt (bs more : List UInt8) (e : En) : Dc := some (e.r, be (bs.take e.l) - e.n, bs.drop e.l ++ more)

section
variable {bs more : List UInt8} {f : En}

theorem between {e : En} (hf : Ends bs f) (h : Reach e f) : e.n ≤ be (bs.take e.l) ∧ be (bs.take e.l) < e.n + e.r ∧ e.l ≤ bs.length := by
  obtain ⟨k, h1, h2, h3⟩ := h
  have hl := hf.len
  obtain ⟨t1, t2⟩ := be_take bs e.l
  rw [hf.num, show bs.length - e.l = k by omega] at t1 t2
  have hp := hf.pos
  have hk : 0 < 256 ^ k := Nat.pow_pos (by omega)
  refine ⟨?_, ?_, by omega⟩
  · have : e.n * 256 ^ k < (be (bs.take e.l) + 1) * 256 ^ k := by omega
    have := Nat.lt_of_mul_lt_mul_right this
    omega
  · have : be (bs.take e.l) * 256 ^ k < (e.n + e.r) * 256 ^ k := by omega
    exact Nat.lt_of_mul_lt_mul_right this

theorem even_dec {e : En} (hf : Ends bs f) (h : Reach e.even f) : lvl e.r (be (bs.take e.l) - e.n) (bs.drop e.l ++ more) = decAt bs more e.even := by
  have h0 := between hf ((reach_even e).trans h)
  unfold lvl decAt
  by_cases hr : e.r < 16777216
  · have he : e.even = ⟨e.n * 256, e.l + 1, e.r * 256⟩ := by unfold En.even; rw [if_pos hr]
    obtain ⟨_, _, h3⟩ := between hf h
    rw [he] at h3 ⊢
    have hlt : e.l < bs.length := h3
    rw [if_pos hr, List.drop_eq_getElem_cons hlt]
    show some (e.r * 256, (be (bs.take e.l) - e.n) * 256 + (bs[e.l]).toNat, bs.drop (e.l + 1) ++ more) = some (e.r * 256, be (bs.take (e.l + 1)) - e.n * 256, bs.drop (e.l + 1) ++ more)
    rw [be_take_succ hlt]
    congr 3
    omega
  · have he : e.even = e := by unfold En.even; rw [if_neg hr]
    rw [if_neg hr, he]

def upOf (p b : Nat) : Nat := if b = 0 then up0 p else up1 p
theorem pOk_upOf {p b : Nat} (h : POk p) : POk (upOf p b) := by unfold upOf; split; exact pOk_up0 h; exact pOk_up1 h

theorem bit_dec {e : En} {p b : Nat} (hf : Ends bs f) (he : EnOk e) (hp : POk p) (hb : b ≤ 1) (h : Reach (e.bit p b) f) : bitD (decAt bs more e) p = (b, upOf p b, decAt bs more (e.bit p b)) := by
  obtain ⟨b0, b1⟩ := bound_in he.1 he.2.1 hp
  unfold En.bit at h ⊢
  unfold bitD decAt upOf
  simp only []
  by_cases hb0 : b = 0
  · subst hb0
    rw [if_pos rfl] at h ⊢
    obtain ⟨t1, t2, t3⟩ := between hf ((reach_even _).trans h)
    simp only [] at t1 t2 t3
    rw [if_pos (by omega), if_pos rfl]
    have := even_dec (more := more) hf h
    unfold decAt at this
    simp only [] at this
    rw [this]
  · obtain rfl : b = 1 := by omega
    rw [if_neg hb0] at h ⊢
    obtain ⟨t1, t2, t3⟩ := between hf ((reach_even _).trans h)
    simp only [] at t1 t2 t3
    rw [if_neg (by omega), if_neg hb0]
    have := even_dec (more := more) hf h
    unfold decAt at this
    simp only [] at this
    rw [Nat.sub_sub, this]

theorem one_dec {e : En} {b : Nat} (hf : Ends bs f) (hb : b ≤ 1) (h : Reach (e.one b) f) : oneD (decAt bs more e) = (b, decAt bs more (e.one b)) := by
  unfold En.one at h ⊢
  unfold oneD decAt
  simp only []
  by_cases hb0 : b = 0
  · subst hb0
    rw [if_pos rfl] at h ⊢
    obtain ⟨t1, t2, t3⟩ := between hf ((reach_even _).trans h)
    simp only [] at t1 t2 t3
    rw [if_pos (by omega)]
    have := even_dec (more := more) hf h
    unfold decAt at this
    simp only [] at this
    rw [this]
  · obtain rfl : b = 1 := by omega
    rw [if_neg hb0] at h ⊢
    obtain ⟨t1, t2, t3⟩ := between hf ((reach_even _).trans h)
    simp only [] at t1 t2 t3
    rw [if_neg (by omega), if_pos (by omega)]
    have := even_dec (more := more) hf h
    unfold decAt at this
    simp only [] at this
    rw [Nat.sub_sub, this]

/-! ### numbers told straight -/

/-- bit number i of v, from the least -/
def bitOf (v i : Nat) : Nat := v / 2 ^ i % 2
theorem bitOf_le (v i : Nat) : bitOf v i ≤ 1 := by unfold bitOf; omega
def strE (e : En) (v n : Nat) : Nat → En
  | 0 => e
  | j + 1 => (strE e v n j).one (bitOf v (n - 1 - j))
theorem strE_reach (e : En) (v n : Nat) : ∀ i j, Reach (strE e v n i) (strE e v n (i + j))
  | _, 0 => Reach.refl _
  | i, j + 1 => (strE_reach e v n i j).trans one_reach
theorem strE_ok {e : En} (h : EnOk e) (v n : Nat) : ∀ j, EnOk (strE e v n j)
  | 0 => h
  | j + 1 => one_ok (strE_ok h v n j)
theorem top_bits (v n j : Nat) (hj : j < n) : 2 * (v % 2 ^ n / 2 ^ (n - j)) + bitOf v (n - 1 - j) = v % 2 ^ n / 2 ^ (n - (j + 1)) := by
  obtain ⟨i, hi⟩ : ∃ i, i = n - 1 - j := ⟨_, rfl⟩
  rw [show n - j = i + 1 by omega, show n - (j + 1) = i by omega, ← hi]
  unfold bitOf
  have e1 : v / 2 ^ i % 2 = v % 2 ^ n / 2 ^ i % 2 := by
    have hp : 2 ^ n = 2 ^ i * 2 ^ (n - i) := by rw [← Nat.pow_add]; congr 1; omega
    rw [hp, Nat.mod_mul_right_div_self]
    have h2 : 2 ^ (n - i) = 2 * 2 ^ (n - i - 1) := by rw [Nat.mul_comm, ← Nat.pow_succ]; congr 1; omega
    rw [h2, Nat.mod_mul_right_mod]
  rw [e1, Nat.pow_succ, ← Nat.div_div_eq_div_mul]
  omega
theorem straight_dec {e : En} {v n : Nat} (hf : Ends bs f) (h : Reach (strE e v n n) f) : ∀ j, j ≤ n → straightGo (decAt bs more e) j = (v % 2 ^ n / 2 ^ (n - j), decAt bs more (strE e v n j))
  | 0, _ => by
    show (0, decAt bs more e) = _
    rw [Nat.sub_zero, Nat.div_eq_of_lt (Nat.mod_lt _ (Nat.two_pow_pos n))]
    rfl
  | j + 1, hj => by
    have ih := straight_dec hf h j (by omega)
    have hr : Reach ((strE e v n j).one (bitOf v (n - 1 - j))) f := by
      have := strE_reach e v n (j + 1) (n - (j + 1))
      rw [show j + 1 + (n - (j + 1)) = n by omega] at this
      exact this.trans h
    show (2 * (straightGo (decAt bs more e) j).1 + (oneD (straightGo (decAt bs more e) j).2).1, (oneD (straightGo (decAt bs more e) j).2).2) = _
    rw [ih, one_dec hf (bitOf_le _ _) hr]
    show (2 * (v % 2 ^ n / 2 ^ (n - j)) + bitOf v (n - 1 - j), _) = _
    rw [top_bits v n j hj]
    rfl

/-! ### trees -/

structure Et where
  m : Nat
  ps : List Nat
  e : En
def Et.step (a b : Nat) (t : Et) : Et := ⟨2 * t.m + b, t.ps.set (a + t.m) (upOf (t.ps.getD (a + t.m) 0) b), t.e.bit (t.ps.getD (a + t.m) 0) b⟩
def treE (bits : Nat → Nat) (a : Nat) (ps : List Nat) (e : En) : Nat → Et
  | 0 => ⟨1, ps, e⟩
  | j + 1 => (treE bits a ps e j).step a (bits j)

theorem treE_ok {bits : Nat → Nat} {a n : Nat} {ps : List Nat} {e : En} (hb : ∀ i, bits i ≤ 1) (he : EnOk e) (hp : PsOk ps) (hl : a + 2 ^ n ≤ ps.length) :
    ∀ j, j ≤ n → EnOk (treE bits a ps e j).e ∧ PsOk (treE bits a ps e j).ps ∧ (treE bits a ps e j).ps.length = ps.length ∧ 2 ^ j ≤ (treE bits a ps e j).m ∧ (treE bits a ps e j).m < 2 ^ (j + 1) := by
  intro j
  induction j with
  | zero => intro _; exact ⟨he, hp, rfl, by simp [treE], by simp [treE]⟩
  | succ j ih =>
    intro hj
    obtain ⟨h1, h2, h3, h4, h5⟩ := ih (by omega)
    show EnOk (Et.step a _ _).e ∧ PsOk (Et.step a _ _).ps ∧ (Et.step a _ _).ps.length = _ ∧ _ ≤ (Et.step a _ _).m ∧ (Et.step a _ _).m < _
    generalize treE bits a ps e j = t at *
    have hpow : 2 ^ (j + 1) ≤ 2 ^ n := Nat.pow_le_pow_right (by omega) hj
    have hg := getD_ok h2 (show a + t.m < t.ps.length by omega)
    have hbj := hb j
    have e1 : 2 ^ (j + 1) = 2 * 2 ^ j := by rw [Nat.pow_succ, Nat.mul_comm]
    have e2 : 2 ^ (j + 1 + 1) = 2 * 2 ^ (j + 1) := by rw [Nat.pow_succ, Nat.mul_comm]
    refine ⟨bit_ok h1 hg, psOk_set h2 _ (pOk_upOf hg), by simp [Et.step, h3], ?_, ?_⟩
    · show _ ≤ 2 * t.m + bits j; omega
    · show 2 * t.m + bits j < _; omega
theorem treE_reach {bits : Nat → Nat} {a n : Nat} {ps : List Nat} {e : En} (hb : ∀ i, bits i ≤ 1) (he : EnOk e) (hp : PsOk ps) (hl : a + 2 ^ n ≤ ps.length) (i : Nat) :
    ∀ j, i + j ≤ n → Reach (treE bits a ps e i).e (treE bits a ps e (i + j)).e := by
  intro j
  induction j with
  | zero => intro _; exact Reach.refl _
  | succ j ih =>
    intro hj
    obtain ⟨h1, h2, h3, h4, h5⟩ := treE_ok hb he hp hl (i + j) (by omega)
    have hpow : 2 ^ (i + j + 1) ≤ 2 ^ n := Nat.pow_le_pow_right (by omega) (by omega)
    have hlt : a + (treE bits a ps e (i + j)).m < (treE bits a ps e (i + j)).ps.length := by omega
    exact (ih (by omega)).trans (bit_reach h1 (getD_ok h2 hlt))

theorem tree_dec {bits : Nat → Nat} {a n : Nat} {ps : List Nat} {e : En} (hf : Ends bs f) (hb : ∀ i, bits i ≤ 1) (he : EnOk e) (hp : PsOk ps) (hl : a + 2 ^ n ≤ ps.length) (h : Reach (treE bits a ps e n).e f) :
    ∀ j, j ≤ n → (Tr.go a (Tr.begin ps (decAt bs more e)) j).m = (treE bits a ps e j).m ∧ (Tr.go a (Tr.begin ps (decAt bs more e)) j).ps = (treE bits a ps e j).ps ∧ (Tr.go a (Tr.begin ps (decAt bs more e)) j).d = decAt bs more (treE bits a ps e j).e ∧
      (Tr.go a (Tr.begin ps (decAt bs more e)) j).v = 2 ^ j := by
  intro j
  induction j with
  | zero => intro _; exact ⟨rfl, rfl, rfl, rfl⟩
  | succ j ih =>
    intro hj
    obtain ⟨i1, i2, i3, i4⟩ := ih (by omega)
    obtain ⟨h1, h2, h3, h4, h5⟩ := treE_ok hb he hp hl j (by omega)
    have hpow : 2 ^ (j + 1) ≤ 2 ^ n := Nat.pow_le_pow_right (by omega) hj
    have hr : Reach ((treE bits a ps e j).e.bit ((treE bits a ps e j).ps.getD (a + (treE bits a ps e j).m) 0) (bits j)) f := by
      have := treE_reach hb he hp hl (j + 1) (n - (j + 1)) (by omega)
      rw [show j + 1 + (n - (j + 1)) = n by omega] at this
      exact this.trans h
    have hd := bit_dec (more := more) hf h1 (getD_ok h2 (show a + (treE bits a ps e j).m < (treE bits a ps e j).ps.length by omega)) (hb j) hr
    show (Tr.step a _).m = (Et.step a _ _).m ∧ (Tr.step a _).ps = (Et.step a _ _).ps ∧ (Tr.step a _).d = decAt bs more (Et.step a _ _).e ∧ (Tr.step a _).v = _
    generalize Tr.go a (Tr.begin ps (decAt bs more e)) j = T at *
    generalize treE bits a ps e j = t at *
    have hbit : T.bit a = (bits j, upOf (t.ps.getD (a + t.m) 0) (bits j), decAt bs more (t.e.bit (t.ps.getD (a + t.m) 0) (bits j))) := by
      unfold Tr.bit
      rw [i1, i2, i3, hd]
    refine ⟨?_, ?_, ?_, ?_⟩
    · show 2 * T.m + (T.bit a).1 = 2 * t.m + bits j
      rw [hbit, i1]
    · show T.ps.set (a + T.m) (T.bit a).2.1 = t.ps.set (a + t.m) _
      rw [hbit, i1, i2]
    · show (T.bit a).2.2 = _
      rw [hbit]
      rfl
    · show 2 * T.v = _
      rw [i4, Nat.pow_succ, Nat.mul_comm]
theorem tree_o {bits : Nat → Nat} {a n : Nat} {ps : List Nat} {e : En} (hf : Ends bs f) (hb : ∀ i, bits i ≤ 1) (he : EnOk e) (hp : PsOk ps) (hl : a + 2 ^ n ≤ ps.length) (h : Reach (treE bits a ps e n).e f) :
    ∀ j, j < n → (Tr.go a (Tr.begin ps (decAt bs more e)) (j + 1)).o = (Tr.go a (Tr.begin ps (decAt bs more e)) j).o + bits j * 2 ^ j := by
  intro j hj
  obtain ⟨i1, i2, i3, i4⟩ := tree_dec (more := more) hf hb he hp hl h j (by omega)
  obtain ⟨k1, _⟩ := tree_dec (more := more) hf hb he hp hl h (j + 1) (by omega)
  have e1 : (Tr.go a (Tr.begin ps (decAt bs more e)) (j + 1)).m = 2 * (Tr.go a (Tr.begin ps (decAt bs more e)) j).m + ((Tr.go a (Tr.begin ps (decAt bs more e)) j).bit a).1 := rfl
  have e2 : (treE bits a ps e (j + 1)).m = 2 * (treE bits a ps e j).m + bits j := rfl
  have hbit : ((Tr.go a (Tr.begin ps (decAt bs more e)) j).bit a).1 = bits j := by omega
  show (Tr.go a (Tr.begin ps (decAt bs more e)) j).o + ((Tr.go a (Tr.begin ps (decAt bs more e)) j).bit a).1 * (Tr.go a (Tr.begin ps (decAt bs more e)) j).v = _
  rw [hbit, i4]

/-- the greatest bit first -/
def topBits (v n : Nat) (j : Nat) : Nat := bitOf v (n - 1 - j)
theorem tree_m {v a n : Nat} {ps : List Nat} {e : En} : ∀ j, j ≤ n → (treE (topBits v n) a ps e j).m = 2 ^ j + v % 2 ^ n / 2 ^ (n - j)
  | 0, _ => by
    rw [Nat.sub_zero, Nat.div_eq_of_lt (Nat.mod_lt _ (Nat.two_pow_pos n))]
    rfl
  | j + 1, hj => by
    show 2 * (treE (topBits v n) a ps e j).m + bitOf v (n - 1 - j) = _
    rw [tree_m j (by omega), ← top_bits v n j hj, Nat.pow_succ]
    omega
theorem low_bits (v j : Nat) : v % 2 ^ j + bitOf v j * 2 ^ j = v % 2 ^ (j + 1) := by
  unfold bitOf
  rw [Nat.pow_succ, Nat.mod_mul, Nat.mul_comm]
theorem rev_o {v a n : Nat} {ps : List Nat} {e : En} (hf : Ends bs f) (he : EnOk e) (hp : PsOk ps) (hl : a + 2 ^ n ≤ ps.length) (h : Reach (treE (bitOf v) a ps e n).e f) :
    ∀ j, j ≤ n → (Tr.go a (Tr.begin ps (decAt bs more e)) j).o = v % 2 ^ j
  | 0, _ => by rw [Nat.pow_zero, Nat.mod_one]; rfl
  | j + 1, hj => by rw [tree_o hf (bitOf_le v) he hp hl h j hj, rev_o hf he hp hl h j (by omega), low_bits]

/-! ### questions -/

/-- what is coded of a question: the probabilities then, and the coder -/
def askE (ps : List Nat) (e : En) (k a n v : Nat) : List Nat × En :=
  if k = 0 then (ps.set a (upOf (ps.getD a 0) (v % 2)), e.bit (ps.getD a 0) (v % 2))
  else if k = 3 then (ps, strE e v n n)
  else if k = 1 then ((treE (topBits v n) a ps e n).ps, (treE (topBits v n) a ps e n).e)
  else ((treE (bitOf v) a ps e n).ps, (treE (bitOf v) a ps e n).e)
def wantOf (k n v : Nat) : Nat := if k = 0 then v % 2 else v % 2 ^ n

end

theorem reach_len {e e' : En} (h : Reach e e') : e.l ≤ e'.l := by obtain ⟨k, h, _⟩ := h; omega
/-! ### lengths -/
theorem even_len (e : En) : e.even.l ≤ e.l + 1 := by unfold En.even; split; exact Nat.le_refl _; omega
theorem bit_len (e : En) (p b : Nat) : (e.bit p b).l ≤ e.l + 1 := by unfold En.bit; split; exact even_len _; exact even_len _
theorem one_len (e : En) (b : Nat) : (e.one b).l ≤ e.l + 1 := by unfold En.one; split; exact even_len _; exact even_len _
theorem strE_len (e : En) (v n : Nat) : ∀ j, (strE e v n j).l ≤ e.l + j
  | 0 => Nat.le_refl _
  | j + 1 => by have := one_len (strE e v n j) (bitOf v (n - 1 - j)); have := strE_len e v n j; show ((strE e v n j).one _).l ≤ _; omega
theorem treE_len (bits : Nat → Nat) (a : Nat) (ps : List Nat) (e : En) : ∀ j, (treE bits a ps e j).e.l ≤ e.l + j
  | 0 => Nat.le_refl _
  | j + 1 => by
    have := treE_len bits a ps e j
    have := bit_len (treE bits a ps e j).e ((treE bits a ps e j).ps.getD (a + (treE bits a ps e j).m) 0) (bits j)
    show ((treE bits a ps e j).e.bit _ _).l ≤ _
    omega
/-- what is added fits -/
theorem enIn_fits {e : En} (h : EnIn e) {v : Nat} (hv : v ≤ e.r) : e.n + v < 256 ^ e.l := by
  obtain ⟨h1, h2⟩ := h
  have hp : 256 ^ e.l = 1099511627776 * 256 ^ (e.l - 5) := by
    rw [show (1099511627776 : Nat) = 256 ^ 5 from rfl, ← Nat.pow_add]
    congr 1
    omega
  have : 0 < 256 ^ (e.l - 5) := Nat.pow_pos (by omega)
  rw [hp]
  omega

/-! ### bits 0, one behind the other, with one probability -/

def likely : Nat → Nat × En
  | 0 => (1024, En.new)
  | k + 1 => (up0 (likely k).1, (likely k).2.bit (likely k).1 0)
/-- the same, as its range and its length alone -/
def likR (s : Nat × Nat × Nat) : Nat × Nat × Nat := if s.2.1 / 2048 * s.1 < 16777216 then (up0 s.1, s.2.1 / 2048 * s.1 * 256, s.2.2 + 1) else (up0 s.1, s.2.1 / 2048 * s.1, s.2.2)
/-- k bits from s on, the i-th of them all: as many bytes as may be, at each -/
def likOk : Nat → Nat → Nat × Nat × Nat → Bool
  | 0, _, _ => true
  | f + 1, i, s => Nat.ble s.2.2 (12 + i / 40) && likOk f (i + 1) (likR s)
theorem likely_ok : ∀ k, EnOk (likely k).2 ∧ POk (likely k).1
  | 0 => ⟨enOk_new, pOk_fresh⟩
  | k + 1 => ⟨bit_ok (likely_ok k).1 (likely_ok k).2, pOk_up0 (likely_ok k).2⟩
end Go.Proofs.YtoencondpbkomaaGreat

/-
  The program's coder as numbers: the bytes that it gave, the byte that waits, the bytes FF behind it, low; and the one great number that it stands for.
-/
namespace Go.Proofs.YtoencondpbkomaaGreat

structure Co where
  gs : List UInt8
  wt : Nat
  fu : Nat
  lo : Nat

def Co.new : Co := ⟨[], 0, 0, 0⟩
/-- what waited is given, more by m -/
def Co.gave (c : Co) (m : Nat) : List UInt8 := c.gs ++ (UInt8.ofNat (c.wt + m) :: List.replicate c.fu (UInt8.ofNat (255 + m)))
/-- a byte is given -/
def Co.give (c : Co) : Co :=
  if 4294967296 ≤ c.lo then ⟨c.gave 1, c.lo / 16777216 % 256, 0, c.lo % 16777216 * 256⟩
  else if c.lo < 4278190080 then ⟨c.gave 0, c.lo / 16777216, 0, c.lo % 16777216 * 256⟩
  else ⟨c.gs, c.wt, c.fu + 1, c.lo % 16777216 * 256⟩

/-- the coder c stands for n, as long as l; what is added stays below r -/
structure CoN (c : Co) (n l r : Nat) : Prop where
  num : n + 4294967296 = (be c.gs * 256 + c.wt + 1) * 256 ^ c.fu * 4294967296 + c.lo
  len : l = c.gs.length + c.fu + 5
  wt : c.wt < 256
  top : c.lo + r ≤ 8589934592
  full : c.wt = 255 → c.lo + r ≤ 4294967296
  pos : 1 ≤ r

theorem coN_new : CoN Co.new 0 5 4294967295 := ⟨by decide, rfl, by decide, by decide, by decide, by decide⟩
theorem CoN.mono {c : Co} {n l r r' : Nat} (h : CoN c n l r) (hr : r' ≤ r) (h1 : 1 ≤ r') : CoN c n l r' :=
  ⟨h.num, h.len, h.wt, by have := h.top; omega, fun e => by have := h.full e; omega, h1⟩
theorem CoN.low {c : Co} {n l r : Nat} (h : CoN c n l r) : c.lo < 8589934592 := by have := h.top; have := h.pos; omega

/-- what is added -/
def Co.plus (c : Co) (z : Nat) : Co := ⟨c.gs, c.wt, c.fu, c.lo + z⟩
theorem CoN.plus {c : Co} {n l r r' z : Nat} (h : CoN c n l r) (hz : z + r' ≤ r) (h1 : 1 ≤ r') : CoN (c.plus z) (n + z) l r' :=
  ⟨by have := h.num; show n + z + 4294967296 = (be c.gs * 256 + c.wt + 1) * 256 ^ c.fu * 4294967296 + (c.lo + z); omega, h.len, h.wt, by have := h.top; show c.lo + z + r' ≤ _; omega, fun e => by have := h.full e; show c.lo + z + r' ≤ _; omega, h1⟩

theorem be_fulls : ∀ k : Nat, be (List.replicate k (UInt8.ofNat 255)) + 1 = 256 ^ k
  | 0 => rfl
  | k + 1 => by
    have := be_fulls k
    rw [List.replicate_succ', be_snoc, Nat.pow_succ]
    have e : (UInt8.ofNat 255).toNat = 255 := rfl
    rw [e]
    omega
theorem gave_len (c : Co) (m : Nat) : (c.gave m).length = c.gs.length + 1 + c.fu := by unfold Co.gave; simp; omega
theorem be_gave_zero (c : Co) (h : c.wt < 256) : be (c.gave 0) + 1 = (be c.gs * 256 + c.wt + 1) * 256 ^ c.fu := by
  have e : (UInt8.ofNat (c.wt + 0)).toNat = c.wt := by simp; omega
  have k := be_fulls c.fu
  have hc : UInt8.ofNat (c.wt + 0) :: List.replicate c.fu (UInt8.ofNat (255 + 0)) = [UInt8.ofNat (c.wt + 0)] ++ List.replicate c.fu (UInt8.ofNat 255) := rfl
  unfold Co.gave
  rw [hc, ← List.append_assoc, be_append, be_snoc, e, List.length_replicate, Nat.add_mul (be c.gs * 256 + c.wt) 1]
  omega
theorem be_gave_one (c : Co) (h : c.wt < 255) : be (c.gave 1) = (be c.gs * 256 + c.wt + 1) * 256 ^ c.fu := by
  have e : (UInt8.ofNat (c.wt + 1)).toNat = c.wt + 1 := by simp; omega
  have hc : UInt8.ofNat (c.wt + 1) :: List.replicate c.fu (UInt8.ofNat (255 + 1)) = [UInt8.ofNat (c.wt + 1)] ++ List.replicate c.fu 0 := rfl
  unfold Co.gave
  rw [hc, ← List.append_assoc, be_append, be_snoc, e, List.length_replicate, be_zeros, Nat.add_zero, Nat.add_assoc]

theorem give_carry {n X lo h m : Nat} (hn : n + 4294967296 = X * 4294967296 + lo) (hlo : lo = 4294967296 + h * 16777216 + m) : n * 256 + 4294967296 = (X * 256 + h + 1) * 4294967296 + m * 256 := by omega
theorem give_low {n X Y lo h m : Nat} (hn : n + 4294967296 = X * 4294967296 + lo) (hY : Y + 1 = X) (hlo : lo = h * 16777216 + m) : n * 256 + 4294967296 = (Y * 256 + h + 1) * 4294967296 + m * 256 := by omega
theorem give_full {n X lo m : Nat} (hn : n + 4294967296 = X * 4294967296 + lo) (hlo : lo = 255 * 16777216 + m) : n * 256 + 4294967296 = X * 256 * 4294967296 + m * 256 := by omega

theorem CoN.give {c : Co} {n l r : Nat} (h : CoN c n l r) (hr : r < 16777216) : CoN c.give (n * 256) (l + 1) (r * 256) := by
  obtain ⟨h1, h2, h3, h4, h5, h6⟩ := h
  unfold Co.give
  by_cases hc : 4294967296 ≤ c.lo
  · rw [if_pos hc]
    have hw : c.wt < 255 := by
      rcases Nat.lt_or_ge c.wt 255 with h | h
      · exact h
      · have := h5 (by omega)
        omega
    have hX := be_gave_one c hw
    rw [← hX] at h1
    refine ⟨?_, ?_, Nat.mod_lt _ (by decide), ?_, ?_, by omega⟩
    · show n * 256 + 4294967296 = (be (c.gave 1) * 256 + c.lo / 16777216 % 256 + 1) * 256 ^ 0 * 4294967296 + c.lo % 16777216 * 256
      rw [Nat.pow_zero, Nat.mul_one]
      exact give_carry h1 (by omega)
    · show l + 1 = (c.gave 1).length + 0 + 5
      rw [gave_len]
      omega
    · show c.lo % 16777216 * 256 + r * 256 ≤ _
      omega
    · show c.lo / 16777216 % 256 = 255 → c.lo % 16777216 * 256 + r * 256 ≤ _
      intro e
      omega
  · rw [if_neg hc]
    by_cases hl : c.lo < 4278190080
    · rw [if_pos hl]
      have hX := be_gave_zero c h3
      refine ⟨?_, ?_, ?_, ?_, ?_, by omega⟩
      · show n * 256 + 4294967296 = (be (c.gave 0) * 256 + c.lo / 16777216 + 1) * 256 ^ 0 * 4294967296 + c.lo % 16777216 * 256
        rw [Nat.pow_zero, Nat.mul_one]
        exact give_low h1 hX (by omega)
      · show l + 1 = (c.gave 0).length + 0 + 5
        rw [gave_len]
        omega
      · show c.lo / 16777216 < 256
        omega
      · show c.lo % 16777216 * 256 + r * 256 ≤ _
        omega
      · show c.lo / 16777216 = 255 → c.lo % 16777216 * 256 + r * 256 ≤ _
        intro e
        omega
    · rw [if_neg hl]
      refine ⟨?_, ?_, h3, ?_, ?_, by omega⟩
      · show n * 256 + 4294967296 = (be c.gs * 256 + c.wt + 1) * 256 ^ (c.fu + 1) * 4294967296 + c.lo % 16777216 * 256
        rw [Nat.pow_succ, ← Nat.mul_assoc]
        exact give_full h1 (by omega)
      · show l + 1 = c.gs.length + (c.fu + 1) + 5
        omega
      · show c.lo % 16777216 * 256 + r * 256 ≤ _
        omega
      · show c.wt = 255 → c.lo % 16777216 * 256 + r * 256 ≤ _
        intro e
        have := h5 e
        omega

/-- k bytes are given -/
def Co.gives (c : Co) : Nat → Co
  | 0 => c
  | k + 1 => (c.gives k).give
theorem give_lo (c : Co) : c.give.lo = c.lo % 16777216 * 256 := by
  unfold Co.give
  split
  · rfl
  · split <;> rfl
theorem give_zero {c : Co} (h : c.lo = 0) : c.give.fu = 0 ∧ c.give.wt = 0 ∧ c.give.lo = 0 := by
  unfold Co.give
  rw [if_neg (by omega), if_pos (by omega)]
  exact ⟨rfl, by show c.lo / 16777216 = 0; omega, by show c.lo % 16777216 * 256 = 0; omega⟩
theorem CoN.gives {c : Co} {n l : Nat} (h : CoN c n l 1) : ∀ k, CoN (c.gives k) (n * 256 ^ k) (l + k) 1
  | 0 => by rw [Nat.pow_zero, Nat.mul_one]; exact h
  | k + 1 => by
    have := (CoN.gives h k).give (by decide)
    rw [Nat.pow_succ, ← Nat.mul_assoc]
    exact this.mono (by decide) (by decide)
/-- In the end all is given. -/
theorem CoN.finish {c : Co} {n l r : Nat} (h : CoN c n l r) : be (c.gives 5).gs = n ∧ (c.gives 5).gs.length = l := by
  have h0 := h.low
  have h5 := (h.mono h.pos (Nat.le_refl 1)).gives 5
  have l1 : (c.gives 1).lo = c.lo % 16777216 * 256 := give_lo _
  have l2 : (c.gives 2).lo = (c.gives 1).lo % 16777216 * 256 := give_lo _
  have l3 : (c.gives 3).lo = (c.gives 2).lo % 16777216 * 256 := give_lo _
  have l4 : (c.gives 4).lo = (c.gives 3).lo % 16777216 * 256 := give_lo _
  obtain ⟨z1, z2, z3⟩ : (c.gives 5).fu = 0 ∧ (c.gives 5).wt = 0 ∧ (c.gives 5).lo = 0 := give_zero (c := c.gives 4) (by omega)
  obtain ⟨k1, k2, _⟩ := h5
  rw [z1, z2, z3, Nat.pow_zero] at k1
  rw [z1] at k2
  exact ⟨by omega, by omega⟩

theorem gives_succ (c : Co) (k : Nat) : c.gives (k + 1) = (c.gives k).give := rfl
theorem give_fu (c : Co) : c.give.gs.length + c.give.fu = c.gs.length + c.fu + 1 := by
  unfold Co.give
  split
  · show (c.gave 1).length + 0 = _; rw [gave_len]; omega
  · split
    · show (c.gave 0).length + 0 = _; rw [gave_len]; omega
    · show c.gs.length + (c.fu + 1) = _; omega
theorem gives_len (c : Co) : ∀ k, (c.gives k).gs.length + (c.gives k).fu = c.gs.length + c.fu + k
  | 0 => rfl
  | k + 1 => by have := give_fu (c.gives k); have := gives_len c k; rw [gives_succ]; omega
end Go.Proofs.YtoencondpbkomaaGreat

/-
  The decoder's small calls: a byte comes in, the decoder is refused, what it told.
-/
namespace Go.Proofs.YtoencondpbkomaaGreat
open Go.RowKit

/-- the decoder's own blocks -/
def two (f g : Nat) : Nat → Prop := fun i => i = f ∨ i = g

theorem u32_of (x : Int) (h0 : 0 ≤ x) (h : x < 4294967296) : IntKind.u32.wrap x = x := by
  simp [IntKind.wrap, IntKind.bits, IntKind.signed]; omega
end Go.Proofs.YtoencondpbkomaaGreat

/-
  The decoder is evened out, and tells a bit straight.
-/
namespace Go.Proofs.YtoencondpbkomaaGreat
open Go.RowKit

end Go.Proofs.YtoencondpbkomaaGreat

/-
  Probabilities in a block of their own.
-/
namespace Go.Proofs.YtoencondpbkomaaGreat
open Go.RowKit

/-- probabilities as cells -/
def pv (ps : List Nat) : List Value := ps.map fun (p : Nat) => Value.int .u16 (p : Int)
theorem pv_length (ps : List Nat) : (pv ps).length = ps.length := by simp [pv]
theorem pv_get (ps : List Nat) (i : Nat) (h : i < ps.length) : (pv ps)[i]? = some (.int .u16 ((ps.getD i 0 : Nat) : Int)) := by
  simp [pv, List.getD, h]
theorem pv_set (ps : List Nat) (i q : Nat) : (pv ps).set i (.int .u16 (q : Int)) = pv (ps.set i q) := by
  simp [pv, List.map_set]

/-- Block b holds the probabilities ps. -/
def Row (w : World) (b : Nat) (ps : List Nat) (c : Nat) : Prop := w.ownsRow 0 67 1 (.slice (some ⟨b, 0, none⟩) ps.length c) ps.length (pv ps)

section
variable {w w' : World} {b c : Nat} {ps : List Nat}
theorem Row.cell (h : Row w b ps c) {i : Nat} (hi : i < ps.length) : w.cell? ⟨b, i, none⟩ = some (.int .u16 ((ps.getD i 0 : Nat) : Int)) := by
  rw [World.ownsRow.cellAt h i (by omega), pv_get ps i hi]
theorem Row.free (h : Row w b ps c) (i : Nat) : w.frozen? ⟨b, i, none⟩ = false := World.ownsRow.frozenAt h i
theorem Row.put (h : Row w b ps c) (i q : Nat) : Row (w.setCell ⟨b, i, none⟩ (.int .u16 (q : Int))) b (ps.set i q) c := by
  have := (World.ownsRow.stored h i (.int .u16 (q : Int))).1
  rw [pv_set] at this
  unfold Row
  rw [List.length_set]
  exact this
theorem Row.drewN (h : Row w b ps c) (n : Nat) : Row (w.drewN n) b ps c := h
theorem Row.only {S : Nat → Prop} (h : Row w b ps c) (hb : Only S w w') (hS : ¬ S b) : Row w' b ps c := own_only h hb hS
theorem Row.lt (h : Row w b ps c) : b < w.heap.size := (World.ownsRow.lt h b rfl).2
theorem Row.cap (h : Row w b ps c) : ps.length ≤ c ∧ c ≤ maxLen := by
  obtain ⟨_, h2, h3, _⟩ := own_facts h
  exact ⟨h2, h3⟩
end

end Go.Proofs.YtoencondpbkomaaGreat

/-
  The decoder tells a bit with a probability.
-/
namespace Go.Proofs.YtoencondpbkomaaGreat
open Go.RowKit

def three (f g b : Nat) : Nat → Prop := fun i => i = f ∨ i = g ∨ i = b
theorem u16_in (x : Int) (h : 0 ≤ x ∧ x < 65536) : IntKind.u16.wrap x = x := by
  simp [IntKind.wrap, IntKind.bits, IntKind.signed]
  omega

end Go.Proofs.YtoencondpbkomaaGreat

/-
  The program's coder in memory; what waited is given.
-/
namespace Go.Proofs.YtoencondpbkomaaGreat
open Go.RowKit

def pcCells (lo r : Nat) (v : Value) (wt fu : Nat) : Array Value := #[.int .u64 (lo : Int), .int .u32 (r : Int), v, .int .u8 (wt : Int), .int .i64 (fu : Int)]

/-- Block g is the program's coder, c, its range r; G is its bytes' block, if there is one. -/
def Pw (w : World) (g : Nat) (G : Option Nat) (c : Co) (r : Nat) : Prop :=
  ∃ A m, Blk w g 105 (pcCells c.lo r (.slice A c.gs.length m) c.wt c.fu) ∧ w.ownsRow 0 5 1 (.slice A c.gs.length m) c.gs.length (bv c.gs) ∧ (Value.slice A c.gs.length m).ownBlock = G ∧ G ≠ some g

def pset (g : Nat) (G : Option Nat) : Nat → Prop := fun i => i = g ∨ G = some i
/-- G' is no old block but G -/
def Nwr (w : World) (G G' : Option Nat) : Prop := ∀ i, G' = some i → G = some i ∨ w.heap.size ≤ i
theorem Nwr.refl (w : World) (G : Option Nat) : Nwr w G G := fun _ h => .inl h
theorem Nwr.trans {w w' : World} {G G' G'' : Option Nat} (h : Nwr w G G') (k : Nwr w' G' G'') (hs : w.heap.size ≤ w'.heap.size) : Nwr w G G'' := fun i hi => by
  rcases k i hi with h1 | h1
  · exact h i h1
  · exact .inr (Nat.le_trans hs h1)
theorem pset_trans {w w1 w2 : World} {g : Nat} {G G1 : Option Nat} (h : Only (pset g G) w w1) (hn : Nwr w G G1) (k : Only (pset g G1) w1 w2) : Only (pset g G) w w2 :=
  h.trans' k fun i hi => by
    rcases hi with hi | hi
    · exact .inl (.inl hi)
    · rcases hn i hi with h1 | h1
      · exact .inl (.inr h1)
      · exact .inr h1

section
variable {w w' : World} {g : Nat} {G : Option Nat} {c : Co} {r : Nat}
theorem Pw.lt (h : Pw w g G c r) : g < w.heap.size := by obtain ⟨A, m, hB, _⟩ := h; exact hB.lt
theorem Pw.old (h : Pw w g G c r) {i : Nat} (hi : G = some i) : i < w.heap.size := by obtain ⟨A, m, hB, hO, hG, _⟩ := h; exact own_old hO (hG.trans hi)
theorem Pw.only {S : Nat → Prop} (h : Pw w g G c r) (hb : Only S w w') (hg : ¬ S g) (hG : ∀ i, G = some i → ¬ S i) : Pw w' g G c r := by
  obtain ⟨A, m, hB, hO, hE, hn⟩ := h
  exact ⟨A, m, hB.only hb hg, own_only' hO hb (fun i hi => hG i (hE.symm.trans hi)), hE, hn⟩
theorem Pw.drewN (h : Pw w g G c r) (n : Nat) : Pw (w.drewN n) g G c r := h
end

/-- What a call of the program's coder leaves. -/
def PwPost (w : World) (g : Nat) (G : Option Nat) (v : Value) (c : Co) (r : Nat) (e : Ending) (w' : World) : Prop :=
  e = .returned v ∧ ∃ G', Pw w' g G' c r ∧ Nwr w G G' ∧ Only (pset g G) w w'

/-- One byte more, and the cell that leads to the bytes is stored. -/
theorem pushed {w w1 w3 : World} {g : Nat} {G : Option Nat} {A : Option Addr} {gs : List UInt8} {m q' c' lo r wt fu : Nat} {x : UInt8} {u : Value} (hu : u = .int .u8 (x.toNat : Int))
    (hB : Blk w g 105 (pcCells lo r (.slice A gs.length m) wt fu)) (hO : w.ownsRow 0 5 1 (.slice A gs.length m) gs.length (bv gs)) (hG : (Value.slice A gs.length m).ownBlock = G) (hne : G ≠ some g)
    (h1 : Only (fun _ => False) w w1) (ho : w3.ownsRow 0 5 1 (.slice (some ⟨q', 0, none⟩) (gs.length + 1) c') (gs.length + 1) (bv gs ++ [u])) (hg : w1.grownBy w3 (Value.slice A gs.length m).ownBlock)
    (hq : (Value.slice A gs.length m).ownBlock = some q' ∨ q' = w1.heap.size) :
    Pw (w3.setCell ⟨g, 2, none⟩ (.slice (some ⟨q', 0, none⟩) (gs.length + 1) c')) g (some q') ⟨gs ++ [x], wt, fu, lo⟩ r ∧ Nwr w G (some q') ∧ Only (pset g G) w (w3.setCell ⟨g, 2, none⟩ (.slice (some ⟨q', 0, none⟩) (gs.length + 1) c')) := by
  subst hu
  have hgl := hB.lt
  have hs1 := h1.size
  have hqg : q' ≠ g := by
    rcases hq with h | h
    · intro e; subst e; exact hne (hG.symm.trans h)
    · omega
  have hB1 : Blk w1 g 105 _ := hB.only h1 (fun h => h)
  have hB3 : Blk w3 g 105 _ := hB1.grown hg (by intro e; exact hne (hG.symm.trans e.symm))
  have h3 : Only (pset g G) w w3 := by
    refine (h1.mono (S' := pset g G) (fun _ h => h.elim)).trans ⟨hg.os, hg.tape, hg.output, hg.size, fun i hi hn => hg.block i hi fun e => hn (.inr (hG.symm.trans e.symm))⟩
  refine ⟨⟨some ⟨q', 0, none⟩, c', ?_, ?_, rfl, fun e => hqg (by injection e)⟩, ?_, h3.setCell (p := ⟨g, 2, none⟩) (.inl (.inl rfl)) _⟩
  · have := hB3.put 2 (.slice (some ⟨q', 0, none⟩) (gs.length + 1) c')
    show Blk _ g _ (pcCells lo r (.slice (some ⟨q', 0, none⟩) (gs ++ [x]).length c') wt fu)
    rw [List.length_append]
    exact this
  · show World.ownsRow _ 0 5 1 (.slice (some ⟨q', 0, none⟩) (gs ++ [x]).length c') (gs ++ [x]).length (bv (gs ++ [x]))
    rw [List.length_append, bv_append]
    exact own_only (S := fun i => i = g) ho ((Only.refl (fun i => i = g) w3).setCell (p := ⟨g, 2, none⟩) (.inl rfl) _) hqg
  · intro i hi
    injection hi with hi
    subst hi
    rcases hq with h | h
    · exact .inl (hG.symm.trans h)
    · exact .inr (by omega)

theorem u8_more (wt k : Nat) (h : wt + k < 512) : IntKind.u8.wrap ((wt : Int) + (k : Int)) = ((UInt8.ofNat (wt + k)).toNat : Int) := by
  simp [IntKind.wrap, IntKind.bits, IntKind.signed]

theorem rep_snoc (base : List UInt8) (j : Nat) (y : UInt8) : base ++ List.replicate j y ++ [y] = base ++ List.replicate (j + 1) y := by
  rw [List.append_assoc, List.replicate_succ']

/-- behind the first byte: those that waited with it -/
def WaitRel (w : World) (g : Nat) (G : Option Nat) (base : List UInt8) (y : UInt8) (wt fu lo r : Nat) (i : Value) (wr : World) : Prop :=
  ∃ j G', j ≤ fu ∧ i = .int .i64 (j : Int) ∧ Pw wr g G' ⟨base ++ List.replicate j y, wt, fu, lo⟩ r ∧ Nwr w G G' ∧ Only (pset g G) w wr

set_option maxHeartbeats 4000000 in
theorem giveWaiting_any {w : World} {g : Nat} {G : Option Nat} {c : Co} {r : Nat} (b : Bool) (h : Pw w g G c r) (hw : c.wt < 256) (hlen : c.gs.length + c.fu ≤ 1000000000) :
    Calls Tryz.prog 113 #[.pointer (some ⟨g, 0, none⟩), .bool b] w (PwPost w g G (.tuple #[]) ⟨c.gave (if b = true then 1 else 0), c.wt, 0, c.lo⟩ r) := by
  obtain ⟨i, hi, hz0, hz1, hz2⟩ := info_parts info_u8
  obtain ⟨gs, wt, fu, lo⟩ := c
  obtain ⟨A, m, hB, hO, hG, hne⟩ := h
  simp only [] at hB hO hG hw hlen
  obtain ⟨k, hk⟩ : ∃ k, k = if b = true then 1 else 0 := ⟨_, rfl⟩
  have hk1 : k ≤ 1 := by cases b <;> simp at hk <;> omega
  rw [← hk]
  have c2 : w.cell? ⟨g, 2, none⟩ = some (.slice A gs.length m) := hB.cell 2
  have c3 : w.cell? ⟨g, 3, none⟩ = some (.int .u8 (wt : Int)) := hB.cell 3
  have e1 := u8_more wt k (by omega)
  obtain ⟨x, hx⟩ : ∃ x, x = UInt8.ofNat (wt + k) := ⟨_, rfl⟩
  rw [← hx] at e1
  have c2a : (w.alloc (.cells #[.int .u8 (x.toNat : Int)] 5)).cell? ⟨g, 2, none⟩ = some (.slice A gs.length m) := (hB.alloc _).cell 2
  have HNW := Lib.hid (fun (n : Nat) (u : Value) => (sl_one (w.drewN n) 5 u).news)
  have HOA := Lib.hid (fun (n : Nat) (o : Obj) => World.ownsRow.alloc (show (w.drewN n).ownsRow 0 5 1 (.slice A gs.length m) gs.length (bv gs) from hO) o)
  have HX := Lib.hid hx
  have HK := Lib.hid hk
  have HB := Lib.hid hB
  have HO := Lib.hid hO
  have HG := Lib.hid hG
  have HNE := Lib.hid hne
  have HK1 := Lib.hid hk1
  clear hx hB hO hG hne hk1 hk
  have hn3 : ∀ n o, ∀ q' c' (w3 : World), w3.ownsRow 0 5 1 (.slice (some ⟨q', 0, none⟩) (gs.length + 1) c') (gs.length + 1) (bv gs ++ [.int .u8 (x.toNat : Int)]) → ((w.drewN n).alloc o).grownBy w3 (Value.slice A gs.length m).ownBlock → ((Value.slice A gs.length m).ownBlock = some q' ∨ q' = ((w.drewN n).alloc o).heap.size) →
      w3.cell? ⟨g, 2, none⟩ = some (.slice A gs.length m) ∧ w3.frozen? ⟨g, 2, none⟩ = false ∧ Pw (w3.setCell ⟨g, 2, none⟩ (.slice (some ⟨q', 0, none⟩) (gs.length + 1) c')) g (some q') ⟨gs ++ [x], wt, fu, lo⟩ r ∧ Nwr w G (some q') ∧ Only (pset g G) w (w3.setCell ⟨g, 2, none⟩ (.slice (some ⟨q', 0, none⟩) (gs.length + 1) c')) := by
    intro n o q' c' w3 ho hg hq
    have h1 : Only (fun _ => False) w ((w.drewN n).alloc o) := ((Only.refl _ w).drewN n).alloc o
    refine ⟨?_, ?_, pushed rfl HB.out HO.out HG.out HNE.out h1 ho hg hq⟩
    · have hB1 : Blk _ g 105 _ := HB.out.only h1 (fun h => h)
      have hB3 : Blk w3 g 105 _ := hB1.grown hg (by intro e; exact HNE.out (HG.out.symm.trans e.symm))
      exact hB3.cell 2
    · have hB1 : Blk _ g 105 _ := HB.out.only h1 (fun h => h)
      have hB3 : Blk w3 g 105 _ := hB1.grown hg (by intro e; exact HNE.out (HG.out.symm.trans e.symm))
      exact hB3.free 2
  have HN3 := Lib.hid hn3
  have HL := Lib.hid hlen
  clear hn3 hlen hw
  cases b
  · have hk0 : k = 0 := HK.out
    subst hk0
    have e1' : IntKind.u8.wrap (wt : Int) = (x.toNat : Int) := by simpa using e1
    clear e1
    go_enter Tryz.func113, Tryz.ntmps113
    go_wp2_with fail
    go_region_law (first | (refine step_append_lies _ rfl (.tmp 10) (.tmp 17) 22 rfl 0 5 i _ 1 1 Tryz.underlying22 hi hz0 hz1 hz2 rfl (by omega) _ gs.length (bv gs) rfl (HOA.out 1 _) _ 1 1 [.int .u8 (x.toNat : Int)] rfl rfl (HNW.out 1 _) (one_one _ _) (by omega) (by have := HL.out; unfold maxLen; omega) (by have := HL.out; omega) (Nat.zero_le _) _ rfl ?_; intro q' c' w3 ho hg hq hql3; obtain ⟨j2, z2, hP⟩ := HN3.out 1 _ q' c' w3 ho hg hq; have HP := Lib.hid hP; clear ho hg hq hP))
    all_goals
      clear c2 c3 c2a HNW HOA HN3 HO HB j2 z2
      obtain ⟨hP1, hN1, hO1⟩ := HP.out
      clear HP
      generalize w3.setCell ⟨g, 2, none⟩ (.slice (some ⟨q', 0, none⟩) (gs.length + 1) c') = w4 at *
      have c4 : w4.cell? ⟨g, 4, none⟩ = some (.int .i64 (fu : Int)) := by obtain ⟨A1, m1, hB1, _⟩ := hP1; exact hB1.cell 4
      have HP1 := Lib.hid hP1
      have HN1 := Lib.hid hN1
      have HO1 := Lib.hid hO1
      clear hP1 hN1 hO1 HG HNE
      go_wp2_with fail
      go_loopw [25] (fun i wr => WaitRel w g G (gs ++ [x]) 255 wt fu lo r i wr) (fun i _ => fu - (intOf i).toNat)
      case atStart => exact ⟨0, some q', Nat.zero_le _, rfl, by rw [List.replicate_zero, List.append_nil]; exact HP1.out, HN1.out, HO1.out⟩
      case round =>
        clear HP1 HN1 HO1 c4
        obtain ⟨j, G', hj, rfl, hP, hN, hO⟩ := hrel
        obtain ⟨B, hBB⟩ : ∃ B, B = gs ++ [x] ++ List.replicate j 255 := ⟨_, rfl⟩
        have hBl : B.length = gs.length + 1 + j := by rw [hBB]; simp; omega
        have HBB := Lib.hid hBB
        rw [← hBB] at hP
        have HP := Lib.hid hP
        obtain ⟨A', m', hB', hO', hG', hne'⟩ := hP
        simp only [] at hB' hO' hG'
        have hnx : B ++ [255] = gs ++ [x] ++ List.replicate (j + 1) 255 := by rw [hBB, rep_snoc]
        have HNX := Lib.hid hnx
        have HBL := Lib.hid hBl
        have c2 : wr.cell? ⟨g, 2, none⟩ = some (.slice A' B.length m') := hB'.cell 2
        have HB' := Lib.hid hB'
        have HO' := Lib.hid hO'
        have HG' := Lib.hid hG'
        have HNE' := Lib.hid hne'
        have HN := Lib.hid hN
        have HO := Lib.hid hO
        have HNW := Lib.hid (sl_one wr 5 (.int .u8 255)).news
        clear hBB hBl hnx hB' hO' hG' hne' hN hO
        by_cases hlt : j < fu
        · have hlt' : (j : Int) < (fu : Int) := by omega
          have ej : IntKind.i64.wrap ((j : Int) + 1) = (j : Int) + 1 := IntWalk.i64_in _ (by have := HL.out; omega)
          go_wp2_with (at_builtin; refine wpList_append_lies _ rfl (.tmp 31) (.tmp 34) 22 rfl 0 5 i _ 1 1 Tryz.underlying22 hi hz0 hz1 hz2 rfl (by omega) _ B.length (bv B) rfl (HO'.out.alloc _) _ 1 1 [.int .u8 255] rfl rfl HNW.out (one_one _ _) (by omega) (by have := HL.out; have := HBL.out; unfold maxLen; omega) (by have := HL.out; have := HBL.out; omega) (Nat.zero_le _) _ rfl ?_)
          intro q2 c2' w3 ho hg hq hql3
          have h1 : Only (fun _ => False) wr (wr.alloc (.cells #[.int .u8 255] 5)) := (Only.refl _ wr).alloc _
          have hB1 : Blk _ g 105 _ := HB'.out.only h1 (fun h => h)
          have hB3 : Blk w3 g 105 _ := hB1.grown hg (by intro e; exact HNE'.out (HG'.out.symm.trans e.symm))
          have j2 : w3.cell? ⟨g, 2, none⟩ = some (.slice A' B.length m') := hB3.cell 2
          have z2 : w3.frozen? ⟨g, 2, none⟩ = false := hB3.free 2
          obtain ⟨hP2, hN2, hO2⟩ := pushed (x := 255) (by rfl) HB'.out HO'.out HG'.out HNE'.out h1 ho hg (hq.imp id (fun h => by rw [h]; simp))
          have HP2 := Lib.hid hP2
          have HN2 := Lib.hid (HN.out.trans hN2 HO.out.size)
          have HO2 := Lib.hid (pset_trans HO.out HN.out hO2)
          clear ho hg hq h1 hB1 hB3 hP2 hN2 hO2 HN HO HNW HB' HO' HG' HNE' HP c2
          go_wp2_with fail
          go_roundw
          case rel =>
            have hj9 : j < 1000000000 := by have := HL.out; omega
            exact ⟨j + 1, some q2, by omega, by go_num, by rw [← HNX.out]; exact HP2.out, HN2.out, HO2.out⟩
          case measure =>
            have hj9 : j < 1000000000 := by have := HL.out; omega
            simp [intOf]; omega
        · obtain rfl : j = fu := by omega
          have z4 : wr.frozen? ⟨g, 4, none⟩ = false := HB'.out.free 4
          have c4 : wr.cell? ⟨g, 4, none⟩ = some (.int .i64 (j : Int)) := HB'.out.cell 4
          have hirr : ¬ (j : Int) < (j : Int) := by omega
          clear hlt
          go_wp2_with fail
          first | go_end0 | refine bodyPost_ret (results_none rfl _ _ _) rfl ?_
          have e : (Co.gave ⟨gs, wt, j, lo⟩ 0) = B := by
            rw [HBB.out, HX.out, List.append_assoc]
            rfl
          rw [e]
          refine ⟨rfl, G', ⟨A', m', HB'.out.put 4 (.int .i64 0), ?_, HG'.out, HNE'.out⟩, HN.out, HO.out.setCell (p := ⟨g, 4, none⟩) (.inl (.inl rfl)) _⟩
          exact own_only' (S := fun i => i = g) HO'.out ((Only.refl (fun i => i = g) wr).setCell (p := ⟨g, 4, none⟩) (.inl rfl) _) (fun i hi e => HNE'.out (HG'.out.symm.trans (e ▸ hi)))
  · have hk0 : k = 1 := HK.out
    subst hk0
    have e1' : IntKind.u8.wrap ((wt : Int) + 1) = (x.toNat : Int) := by simpa using e1
    clear e1
    go_enter Tryz.func113, Tryz.ntmps113
    go_wp2_with fail
    go_region_law (first | (refine step_append_lies _ rfl (.tmp 10) (.tmp 17) 22 rfl 0 5 i _ 1 1 Tryz.underlying22 hi hz0 hz1 hz2 rfl (by omega) _ gs.length (bv gs) rfl (HOA.out 1 _) _ 1 1 [.int .u8 (x.toNat : Int)] rfl rfl (HNW.out 1 _) (one_one _ _) (by omega) (by have := HL.out; unfold maxLen; omega) (by have := HL.out; omega) (Nat.zero_le _) _ rfl ?_; intro q' c' w3 ho hg hq hql3; obtain ⟨j2, z2, hP⟩ := HN3.out 1 _ q' c' w3 ho hg hq; have HP := Lib.hid hP; clear ho hg hq hP))
    all_goals
      clear c2 c3 c2a HNW HOA HN3 HO HB j2 z2
      obtain ⟨hP1, hN1, hO1⟩ := HP.out
      clear HP
      generalize w3.setCell ⟨g, 2, none⟩ (.slice (some ⟨q', 0, none⟩) (gs.length + 1) c') = w4 at *
      have c4 : w4.cell? ⟨g, 4, none⟩ = some (.int .i64 (fu : Int)) := by obtain ⟨A1, m1, hB1, _⟩ := hP1; exact hB1.cell 4
      have HP1 := Lib.hid hP1
      have HN1 := Lib.hid hN1
      have HO1 := Lib.hid hO1
      clear hP1 hN1 hO1 HG HNE
      go_wp2_with fail
      go_loopw [25] (fun i wr => WaitRel w g G (gs ++ [x]) 0 wt fu lo r i wr) (fun i _ => fu - (intOf i).toNat)
      case atStart => exact ⟨0, some q', Nat.zero_le _, rfl, by rw [List.replicate_zero, List.append_nil]; exact HP1.out, HN1.out, HO1.out⟩
      case round =>
        clear HP1 HN1 HO1 c4
        obtain ⟨j, G', hj, rfl, hP, hN, hO⟩ := hrel
        obtain ⟨B, hBB⟩ : ∃ B, B = gs ++ [x] ++ List.replicate j 0 := ⟨_, rfl⟩
        have hBl : B.length = gs.length + 1 + j := by rw [hBB]; simp; omega
        have HBB := Lib.hid hBB
        rw [← hBB] at hP
        have HP := Lib.hid hP
        obtain ⟨A', m', hB', hO', hG', hne'⟩ := hP
        simp only [] at hB' hO' hG'
        have hnx : B ++ [0] = gs ++ [x] ++ List.replicate (j + 1) 0 := by rw [hBB, rep_snoc]
        have HNX := Lib.hid hnx
        have HBL := Lib.hid hBl
        have c2 : wr.cell? ⟨g, 2, none⟩ = some (.slice A' B.length m') := hB'.cell 2
        have HB' := Lib.hid hB'
        have HO' := Lib.hid hO'
        have HG' := Lib.hid hG'
        have HNE' := Lib.hid hne'
        have HN := Lib.hid hN
        have HO := Lib.hid hO
        have HNW := Lib.hid (sl_one wr 5 (.int .u8 0)).news
        clear hBB hBl hnx hB' hO' hG' hne' hN hO
        by_cases hlt : j < fu
        · have hlt' : (j : Int) < (fu : Int) := by omega
          have ej : IntKind.i64.wrap ((j : Int) + 1) = (j : Int) + 1 := IntWalk.i64_in _ (by have := HL.out; omega)
          go_wp2_with (at_builtin; refine wpList_append_lies _ rfl (.tmp 31) (.tmp 34) 22 rfl 0 5 i _ 1 1 Tryz.underlying22 hi hz0 hz1 hz2 rfl (by omega) _ B.length (bv B) rfl (HO'.out.alloc _) _ 1 1 [.int .u8 0] rfl rfl HNW.out (one_one _ _) (by omega) (by have := HL.out; have := HBL.out; unfold maxLen; omega) (by have := HL.out; have := HBL.out; omega) (Nat.zero_le _) _ rfl ?_)
          intro q2 c2' w3 ho hg hq hql3
          have h1 : Only (fun _ => False) wr (wr.alloc (.cells #[.int .u8 0] 5)) := (Only.refl _ wr).alloc _
          have hB1 : Blk _ g 105 _ := HB'.out.only h1 (fun h => h)
          have hB3 : Blk w3 g 105 _ := hB1.grown hg (by intro e; exact HNE'.out (HG'.out.symm.trans e.symm))
          have j2 : w3.cell? ⟨g, 2, none⟩ = some (.slice A' B.length m') := hB3.cell 2
          have z2 : w3.frozen? ⟨g, 2, none⟩ = false := hB3.free 2
          obtain ⟨hP2, hN2, hO2⟩ := pushed (x := 0) (by rfl) HB'.out HO'.out HG'.out HNE'.out h1 ho hg (hq.imp id (fun h => by rw [h]; simp))
          have HP2 := Lib.hid hP2
          have HN2 := Lib.hid (HN.out.trans hN2 HO.out.size)
          have HO2 := Lib.hid (pset_trans HO.out HN.out hO2)
          clear ho hg hq h1 hB1 hB3 hP2 hN2 hO2 HN HO HNW HB' HO' HG' HNE' HP c2
          go_wp2_with fail
          go_roundw
          case rel =>
            have hj9 : j < 1000000000 := by have := HL.out; omega
            exact ⟨j + 1, some q2, by omega, by go_num, by rw [← HNX.out]; exact HP2.out, HN2.out, HO2.out⟩
          case measure =>
            have hj9 : j < 1000000000 := by have := HL.out; omega
            simp [intOf]; omega
        · obtain rfl : j = fu := by omega
          have z4 : wr.frozen? ⟨g, 4, none⟩ = false := HB'.out.free 4
          have c4 : wr.cell? ⟨g, 4, none⟩ = some (.int .i64 (j : Int)) := HB'.out.cell 4
          have hirr : ¬ (j : Int) < (j : Int) := by omega
          clear hlt
          go_wp2_with fail
          first | go_end0 | refine bodyPost_ret (results_none rfl _ _ _) rfl ?_
          have e : (Co.gave ⟨gs, wt, j, lo⟩ 1) = B := by
            rw [HBB.out, HX.out, List.append_assoc]
            rfl
          rw [e]
          refine ⟨rfl, G', ⟨A', m', HB'.out.put 4 (.int .i64 0), ?_, HG'.out, HNE'.out⟩, HN.out, HO.out.setCell (p := ⟨g, 4, none⟩) (.inl (.inl rfl)) _⟩
          exact own_only' (S := fun i => i = g) HO'.out ((Only.refl (fun i => i = g) wr).setCell (p := ⟨g, 4, none⟩) (.inl rfl) _) (fun i hi e => HNE'.out (HG'.out.symm.trans (e ▸ hi)))
end Go.Proofs.YtoencondpbkomaaGreat

/-
  The decoder tells numbers: straight, by a tree.
-/
namespace Go.Proofs.YtoencondpbkomaaGreat
open Go.RowKit
end Go.Proofs.YtoencondpbkomaaGreat

/-
  The decoder tells a number by a reverse tree.
-/
namespace Go.Proofs.YtoencondpbkomaaGreat
open Go.RowKit

section
variable {g f lo b pc : Nat} {w : World} {bs : List UInt8} {ps : List Nat}

theorem ofInt_u64' (a : Nat) (h : a < 18446744073709551616) : (BitVec.ofInt 64 (a : Int)).toNat = a := by simp; omega
end
end Go.Proofs.YtoencondpbkomaaGreat

/-
  The program's coder gives a byte.
-/
namespace Go.Proofs.YtoencondpbkomaaGreat
open Go.RowKit

theorem low_and (lo : Nat) (h : lo < 8589934592) : bits .and .u64 (IntKind.u64.wrap ((lo : Int) * 256)) 4294967295 = ((lo % 16777216 * 256 : Nat) : Int) := by
  have e : IntKind.u64.wrap ((lo : Int) * 256) = ((lo * 256 : Nat) : Int) := by rw [show (lo : Int) * 256 = ((lo * 256 : Nat) : Int) by omega]; exact u64_in _ (by omega)
  rw [e]
  show IntKind.u64.wrap ((BitVec.ofInt 64 ((lo * 256 : Nat) : Int) &&& BitVec.ofInt 64 ((4294967295 : Nat) : Int)).toNat : Int) = _
  rw [BitVec.toNat_and, ofInt_u64' _ (by omega), ofInt_u64' _ (by omega), show (4294967295 : Nat) = 2 ^ 32 - 1 from rfl, Nat.and_two_pow_sub_one_eq_mod, show lo * 256 % 2 ^ 32 = lo % 16777216 * 256 by omega]
  exact u64_in _ (by omega)

section
variable {w : World} {g : Nat} {G : Option Nat} {c : Co} {r : Nat}

theorem giveWaiting_one (h : Pw w g G c r) (hw : c.wt < 256) (hlen : c.gs.length + c.fu ≤ 1000000000) :
    Calls Tryz.prog 113 #[.pointer (some ⟨g, 0, none⟩), .bool true] w (PwPost w g G (.tuple #[]) ⟨c.gave 1, c.wt, 0, c.lo⟩ r) := giveWaiting_any true h hw hlen
theorem giveWaiting_zero (h : Pw w g G c r) (hw : c.wt < 256) (hlen : c.gs.length + c.fu ≤ 1000000000) :
    Calls Tryz.prog 113 #[.pointer (some ⟨g, 0, none⟩), .bool false] w (PwPost w g G (.tuple #[]) ⟨c.gave 0, c.wt, 0, c.lo⟩ r) := giveWaiting_any false h hw hlen

/-- behind what waited: a byte waits now, and low -/
theorem gave_end {w w1 : World} {G1 : Option Nat} {t lo lo' wt : Nat} {gs : List UInt8} (h : Pw w1 g G1 ⟨gs, wt, 0, lo⟩ r) (hN : Nwr w G G1) (hO : Only (pset g G) w w1) :
    PwPost w g G (.tuple #[]) ⟨gs, t, 0, lo'⟩ r (.returned (.tuple #[])) ((w1.setCell ⟨g, 3, none⟩ (.int .u8 (t : Int))).setCell ⟨g, 0, none⟩ (.int .u64 (lo' : Int))) := by
  obtain ⟨A, m, hB, hOw, hG, hne⟩ := h
  refine ⟨rfl, G1, ⟨A, m, (hB.put 3 (.int .u8 (t : Int))).put 0 (.int .u64 (lo' : Int)), ?_, hG, hne⟩, hN, (hO.setCell (p := ⟨g, 3, none⟩) (.inl (.inl rfl)) _).setCell (p := ⟨g, 0, none⟩) (.inl (.inl rfl)) _⟩
  exact own_only' (S := fun i => i = g) hOw (((Only.refl (fun i => i = g) w1).setCell (p := ⟨g, 3, none⟩) (.inl rfl) _).setCell (p := ⟨g, 0, none⟩) (.inl rfl) _) (fun i hi e => hne (hG.symm.trans (e ▸ hi)))

set_option maxHeartbeats 4000000 in
theorem give_any (h : Pw w g G c r) (hw : c.wt < 256) (hlo : c.lo < 8589934592) (hlen : c.gs.length + c.fu ≤ 999999999) :
    Calls Tryz.prog 97 #[.pointer (some ⟨g, 0, none⟩)] w (PwPost w g G (.tuple #[]) c.give r) := by
  have ea := low_and c.lo hlo
  have ea2 : bits .and .u64 ((c.lo : Int) * 256) 4294967295 = ((c.lo % 16777216 * 256 : Nat) : Int) := by
    have := low_and c.lo hlo
    have e : IntKind.u64.wrap ((c.lo : Int) * 256) = (c.lo : Int) * 256 := by rw [show (c.lo : Int) * 256 = ((c.lo * 256 : Nat) : Int) by omega]; exact u64_in _ (by omega)
    rwa [e] at this
  have c0 : w.cell? ⟨g, 0, none⟩ = some (.int .u64 (c.lo : Int)) := by obtain ⟨A1, m1, hB1, _⟩ := h; exact hB1.cell 0
  by_cases hc : 4294967296 ≤ c.lo
  · have hgive : c.give = ⟨c.gave 1, c.lo / 16777216 % 256, 0, c.lo % 16777216 * 256⟩ := by unfold Co.give; rw [if_pos hc]
    rw [hgive]
    have K := Lib.hid (giveWaiting_one h hw (by omega))
    have hgt : (c.lo : Int) > 4294967295 := by omega
    obtain ⟨t, ht⟩ : ∃ t : Nat, t = c.lo / 16777216 % 256 := ⟨_, rfl⟩
    have et1 : (c.lo : Int) / 16777216 % 256 = (t : Int) := by omega
    have et2 : IntKind.u8.wrap ((c.lo : Int) / 16777216) = (t : Int) := by simp [IntKind.wrap, IntKind.bits, IntKind.signed]; exact et1
    rw [← ht]
    clear hgive hc hlo hw hlen h ht
    generalize c.lo % 16777216 * 256 = lo' at *
    generalize c.lo = lo at *
    go_enter Tryz.func97, Tryz.ntmps97
    go_wp2_with fail
    refine K.out.mono ?_
    rintro e w1 ⟨rfl, G1, hP, hN, hO⟩
    obtain ⟨j0, j3, z0, z3⟩ : w1.cell? ⟨g, 0, none⟩ = some (.int .u64 (lo : Int)) ∧ w1.cell? ⟨g, 3, none⟩ = some (.int .u8 (c.wt : Int)) ∧ w1.frozen? ⟨g, 0, none⟩ = false ∧ w1.frozen? ⟨g, 3, none⟩ = false := by
      obtain ⟨A1, m1, hB1, _⟩ := hP; exact ⟨hB1.cell 0, hB1.cell 3, hB1.free 0, hB1.free 3⟩
    have HP := Lib.hid hP
    have HN := Lib.hid hN
    have HO := Lib.hid hO
    clear hP hN hO K c0
    go_wp2_with fail
    first | go_end0 | refine bodyPost_ret (results_none rfl _ _ _) rfl ?_
    exact gave_end HP.out HN.out HO.out
  · have hgt : ¬ (c.lo : Int) > 4294967295 := by omega
    by_cases hl : c.lo < 4278190080
    · have hgive : c.give = ⟨c.gave 0, c.lo / 16777216, 0, c.lo % 16777216 * 256⟩ := by unfold Co.give; rw [if_neg hc, if_pos hl]
      rw [hgive]
      have K := Lib.hid (giveWaiting_zero h hw (by omega))
      have hll : (c.lo : Int) < 4278190080 := by omega
      obtain ⟨t, ht⟩ : ∃ t : Nat, t = c.lo / 16777216 := ⟨_, rfl⟩
      have et1 : (c.lo : Int) / 16777216 % 256 = (t : Int) := by omega
      have et2 : IntKind.u8.wrap ((c.lo : Int) / 16777216) = (t : Int) := by simp [IntKind.wrap, IntKind.bits, IntKind.signed]; exact et1
      rw [← ht]
      clear hgive hc hlo hw hlen h ht hl
      generalize c.lo % 16777216 * 256 = lo' at *
      generalize c.lo = lo at *
      go_enter Tryz.func97, Tryz.ntmps97
      go_wp2_with fail
      refine K.out.mono ?_
      rintro e w1 ⟨rfl, G1, hP, hN, hO⟩
      obtain ⟨j0, j3, z0, z3⟩ : w1.cell? ⟨g, 0, none⟩ = some (.int .u64 (lo : Int)) ∧ w1.cell? ⟨g, 3, none⟩ = some (.int .u8 (c.wt : Int)) ∧ w1.frozen? ⟨g, 0, none⟩ = false ∧ w1.frozen? ⟨g, 3, none⟩ = false := by
        obtain ⟨A1, m1, hB1, _⟩ := hP; exact ⟨hB1.cell 0, hB1.cell 3, hB1.free 0, hB1.free 3⟩
      have HP := Lib.hid hP
      have HN := Lib.hid hN
      have HO := Lib.hid hO
      clear hP hN hO K c0
      go_wp2_with fail
      first | go_end0 | refine bodyPost_ret (results_none rfl _ _ _) rfl ?_
      exact gave_end HP.out HN.out HO.out
    · have hgive : c.give = ⟨c.gs, c.wt, c.fu + 1, c.lo % 16777216 * 256⟩ := by unfold Co.give; rw [if_neg hc, if_neg hl]
      rw [hgive]
      have hll : ¬ (c.lo : Int) < 4278190080 := by omega
      have ef : IntKind.i64.wrap ((c.fu : Int) + 1) = ((c.fu + 1 : Nat) : Int) := by rw [show (c.fu : Int) + 1 = ((c.fu + 1 : Nat) : Int) by omega]; exact IntWalk.i64_in _ (by omega)
      obtain ⟨A, m, hB, hOw, hG, hne⟩ := h
      have c4 : w.cell? ⟨g, 4, none⟩ = some (.int .i64 (c.fu : Int)) := hB.cell 4
      have z0 : w.frozen? ⟨g, 0, none⟩ = false := hB.free 0
      have z4 : w.frozen? ⟨g, 4, none⟩ = false := hB.free 4
      have HB := Lib.hid hB
      have HOw := Lib.hid hOw
      have HG := Lib.hid hG
      have HNE := Lib.hid hne
      clear hgive hc hlo hw hlen hl hB hOw hG hne
      generalize c.lo % 16777216 * 256 = lo' at *
      generalize c.lo = lo at *
      generalize c.fu + 1 = fu' at *
      go_enter Tryz.func97, Tryz.ntmps97
      go_wp2_with fail
      first | go_end0 | refine bodyPost_ret (results_none rfl _ _ _) rfl ?_
      refine ⟨rfl, G, ⟨A, m, (HB.out.put 4 (.int .i64 (fu' : Int))).put 0 (.int .u64 (lo' : Int)), ?_, HG.out, HNE.out⟩, Nwr.refl _ _, ((Only.refl (pset g G) w).setCell (p := ⟨g, 4, none⟩) (.inl (.inl rfl)) _).setCell (p := ⟨g, 0, none⟩) (.inl (.inl rfl)) _⟩
      exact own_only' (S := fun i => i = g) HOw.out (((Only.refl (fun i => i = g) w).setCell (p := ⟨g, 4, none⟩) (.inl rfl) _).setCell (p := ⟨g, 0, none⟩) (.inl rfl) _) (fun i hi e => HNE.out (HG.out.symm.trans (e ▸ hi)))
end
end Go.Proofs.YtoencondpbkomaaGreat
