/-
  RcPure, LzPure, SmBit: put together.
-/
import Derived.Test.YtjganponepafpaaQ01
set_option linter.unusedVariables false
set_option linter.unusedSimpArgs false
/-
  The range coder as numbers: its bytes as one great number, how many they are, its range; and what the decoder tells of what it coded.
-/
namespace Go.Proofs.Ytjganponepafpaa

structure En where
  n : Nat
  l : Nat
  r : Nat

def En.new : En := ⟨0, 5, 4294967295⟩
/-- evened out -/
def En.even (e : En) : En := if e.r < 16777216 then ⟨e.n * 256, e.l + 1, e.r * 256⟩ else e
def En.bit (e : En) (p b : Nat) : En := if b = 0 then En.even ⟨e.n, e.l, e.r / 2048 * p⟩ else En.even ⟨e.n + e.r / 2048 * p, e.l, e.r - e.r / 2048 * p⟩
def En.one (e : En) (b : Nat) : En := if b = 0 then En.even ⟨e.n, e.l, e.r / 2⟩ else En.even ⟨e.n + e.r / 2, e.l, e.r / 2⟩

/-- its number and its range are within the bytes, a first byte 0 left -/
def EnIn (e : En) : Prop := 5 ≤ e.l ∧ e.n + e.r ≤ 4294967295 * 256 ^ (e.l - 5)
def EnOk (e : En) : Prop := 16777216 ≤ e.r ∧ e.r < 4294967296 ∧ EnIn e
theorem enOk_new : EnOk En.new := ⟨by decide, by decide, by decide, by decide⟩

/-- e' is further on than e -/
def Reach (e e' : En) : Prop := ∃ k, e'.l = e.l + k ∧ e.n * 256 ^ k ≤ e'.n ∧ e'.n + e'.r ≤ (e.n + e.r) * 256 ^ k
theorem Reach.refl (e : En) : Reach e e := ⟨0, rfl, by simp, by simp⟩
theorem Reach.trans {a b c : En} (h : Reach a b) (k : Reach b c) : Reach a c := by
  obtain ⟨x, h1, h2, h3⟩ := h
  obtain ⟨y, k1, k2, k3⟩ := k
  refine ⟨x + y, by omega, ?_, ?_⟩
  · rw [Nat.pow_add, ← Nat.mul_assoc]
    exact Nat.le_trans (Nat.mul_le_mul_right _ h2) k2
  · rw [Nat.pow_add, ← Nat.mul_assoc]
    exact Nat.le_trans k3 (Nat.mul_le_mul_right _ h3)
theorem reach_even (e : En) : Reach e e.even := by
  unfold En.even
  split
  · exact ⟨1, rfl, by simp, by show e.n * 256 + e.r * 256 ≤ _; rw [Nat.pow_one, Nat.add_mul]; omega⟩
  · exact Reach.refl e
theorem enIn_even {e : En} (h : EnIn e) : EnIn e.even := by
  unfold En.even
  split
  · obtain ⟨h1, h2⟩ := h
    refine ⟨by show 5 ≤ e.l + 1; omega, ?_⟩
    show e.n * 256 + e.r * 256 ≤ 4294967295 * 256 ^ (e.l + 1 - 5)
    rw [show e.l + 1 - 5 = (e.l - 5) + 1 by omega, Nat.pow_succ, ← Nat.mul_assoc]
    omega
  · exact h
theorem enOk_even {e : En} (h : EnIn e) (h0 : 65536 ≤ e.r) (h1 : e.r < 4294967296) : EnOk e.even := by
  refine ⟨?_, ?_, enIn_even h⟩
  · unfold En.even
    split
    · show 16777216 ≤ e.r * 256; omega
    · omega
  · unfold En.even
    split
    · show e.r * 256 < 4294967296; omega
    · exact h1

theorem reach_low {e : En} {z : Nat} (hz : z ≤ e.r) : Reach e ⟨e.n, e.l, z⟩ := ⟨0, rfl, by simp, by simp; omega⟩
theorem reach_high {e : En} {z y : Nat} (hz : z + y ≤ e.r) : Reach e ⟨e.n + z, e.l, y⟩ := ⟨0, rfl, by simp, by simp; omega⟩

theorem bit_reach {e : En} {p b : Nat} (h : EnOk e) (hp : POk p) : Reach e (e.bit p b) := by
  obtain ⟨b0, b1⟩ := bound_in h.1 h.2.1 hp
  unfold En.bit
  split
  · exact (reach_low (by omega)).trans (reach_even _)
  · exact (reach_high (by omega)).trans (reach_even _)
theorem bit_ok {e : En} {p b : Nat} (h : EnOk e) (hp : POk p) : EnOk (e.bit p b) := by
  obtain ⟨b0, b1⟩ := bound_in h.1 h.2.1 hp
  obtain ⟨h0, h1, h2, h3⟩ := h
  unfold En.bit
  split
  · exact enOk_even ⟨h2, by show e.n + e.r / 2048 * p ≤ 4294967295 * 256 ^ (e.l - 5); omega⟩ (by show 65536 ≤ e.r / 2048 * p; omega) (by show e.r / 2048 * p < _; omega)
  · exact enOk_even ⟨h2, by show e.n + e.r / 2048 * p + (e.r - e.r / 2048 * p) ≤ 4294967295 * 256 ^ (e.l - 5); omega⟩ (by show 65536 ≤ e.r - e.r / 2048 * p; omega) (by show e.r - e.r / 2048 * p < _; omega)
theorem one_reach {e : En} {b : Nat} : Reach e (e.one b) := by
  unfold En.one
  split
  · exact (reach_low (Nat.div_le_self _ _)).trans (reach_even _)
  · exact (reach_high (by omega)).trans (reach_even _)
theorem one_ok {e : En} {b : Nat} (h : EnOk e) : EnOk (e.one b) := by
  obtain ⟨h0, h1, h2, h3⟩ := h
  unfold En.one
  split
  · exact enOk_even ⟨h2, by show e.n + e.r / 2 ≤ 4294967295 * 256 ^ (e.l - 5); omega⟩ (by show 65536 ≤ e.r / 2; omega) (by show e.r / 2 < _; omega)
  · exact enOk_even ⟨h2, by show e.n + e.r / 2 + e.r / 2 ≤ 4294967295 * 256 ^ (e.l - 5); omega⟩ (by show 65536 ≤ e.r / 2; omega) (by show e.r / 2 < _; omega)

/-- the bytes that a coder gives in the end -/
structure Ends (bs : List UInt8) (f : En) : Prop where
  num : be bs = f.n
  len : bs.length = f.l
  pos : 0 < f.r

/-- the decoder that has come as far as e -/
def decAt (bs more : List UInt8) (e : En) : Dc := some (e.r, be (bs.take e.l) - e.n, bs.drop e.l ++ more)

section
variable {bs more : List UInt8} {f : En}

theorem between {e : En} (hf : Ends bs f) (h : Reach e f) : e.n ≤ be (bs.take e.l) ∧ be (bs.take e.l) < e.n + e.r ∧ e.l ≤ bs.length := by
  obtain ⟨k, h1, h2, h3⟩ := h
  have hl := hf.len
  obtain ⟨t1, t2⟩ := be_take bs e.l
  rw [hf.num, show bs.length - e.l = k by omega] at t1 t2
  have hp := hf.pos
  have hk : 0 < 256 ^ k := Nat.pow_pos (by omega)
  refine ⟨?_, ?_, by omega⟩
  · have : e.n * 256 ^ k < (be (bs.take e.l) + 1) * 256 ^ k := by omega
    have := Nat.lt_of_mul_lt_mul_right this
    omega
  · have : be (bs.take e.l) * 256 ^ k < (e.n + e.r) * 256 ^ k := by omega
    exact Nat.lt_of_mul_lt_mul_right this

theorem even_dec {e : En} (hf : Ends bs f) (h : Reach e.even f) : lvl e.r (be (bs.take e.l) - e.n) (bs.drop e.l ++ more) = decAt bs more e.even := by
  have h0 := between hf ((reach_even e).trans h)
  unfold lvl decAt
  by_cases hr : e.r < 16777216
  · have he : e.even = ⟨e.n * 256, e.l + 1, e.r * 256⟩ := by unfold En.even; rw [if_pos hr]
    obtain ⟨_, _, h3⟩ := between hf h
    rw [he] at h3 ⊢
    have hlt : e.l < bs.length := h3
    rw [if_pos hr, List.drop_eq_getElem_cons hlt]
    show some (e.r * 256, (be (bs.take e.l) - e.n) * 256 + (bs[e.l]).toNat, bs.drop (e.l + 1) ++ more) = some (e.r * 256, be (bs.take (e.l + 1)) - e.n * 256, bs.drop (e.l + 1) ++ more)
    rw [be_take_succ hlt]
    congr 3
    omega
  · have he : e.even = e := by unfold En.even; rw [if_neg hr]
    rw [if_neg hr, he]

def upOf (p b : Nat) : Nat := if b = 0 then up0 p else up1 p
theorem pOk_upOf {p b : Nat} (h : POk p) : POk (upOf p b) := by unfold upOf; split; exact pOk_up0 h; exact pOk_up1 h

theorem bit_dec {e : En} {p b : Nat} (hf : Ends bs f) (he : EnOk e) (hp : POk p) (hb : b ≤ 1) (h : Reach (e.bit p b) f) : bitD (decAt bs more e) p = (b, upOf p b, decAt bs more (e.bit p b)) := by
  obtain ⟨b0, b1⟩ := bound_in he.1 he.2.1 hp
  unfold En.bit at h ⊢
  unfold bitD decAt upOf
  simp only []
  by_cases hb0 : b = 0
  · subst hb0
    rw [if_pos rfl] at h ⊢
    obtain ⟨t1, t2, t3⟩ := between hf ((reach_even _).trans h)
    simp only [] at t1 t2 t3
    rw [if_pos (by omega), if_pos rfl]
    have := even_dec (more := more) hf h
    unfold decAt at this
    simp only [] at this
    rw [this]
  · obtain rfl : b = 1 := by omega
    rw [if_neg hb0] at h ⊢
    obtain ⟨t1, t2, t3⟩ := between hf ((reach_even _).trans h)
    simp only [] at t1 t2 t3
    rw [if_neg (by omega), if_neg hb0]
    have := even_dec (more := more) hf h
    unfold decAt at this
    simp only [] at this
    rw [Nat.sub_sub, this]

theorem one_dec {e : En} {b : Nat} (hf : Ends bs f) (hb : b ≤ 1) (h : Reach (e.one b) f) : oneD (decAt bs more e) = (b, decAt bs more (e.one b)) := by
  unfold En.one at h ⊢
  unfold oneD decAt
  simp only []
  by_cases hb0 : b = 0
  · subst hb0
    rw [if_pos rfl] at h ⊢
    obtain ⟨t1, t2, t3⟩ := between hf ((reach_even _).trans h)
    simp only [] at t1 t2 t3
    rw [if_pos (by omega)]
    have := even_dec (more := more) hf h
    unfold decAt at this
    simp only [] at this
    rw [this]
  · obtain rfl : b = 1 := by omega
    rw [if_neg hb0] at h ⊢
    obtain ⟨t1, t2, t3⟩ := between hf ((reach_even _).trans h)
    simp only [] at t1 t2 t3
    rw [if_neg (by omega), if_pos (by omega)]
    have := even_dec (more := more) hf h
    unfold decAt at this
    simp only [] at this
    rw [Nat.sub_sub, this]

/-! ### numbers told straight -/

/-- bit number i of v, from the least -/
def bitOf (v i : Nat) : Nat := v / 2 ^ i % 2
theorem bitOf_le (v i : Nat) : bitOf v i ≤ 1 := by unfold bitOf; omega
def strE (e : En) (v n : Nat) : Nat → En
  | 0 => e
  | j + 1 => (strE e v n j).one (bitOf v (n - 1 - j))
theorem strE_reach (e : En) (v n : Nat) : ∀ i j, Reach (strE e v n i) (strE e v n (i + j))
  | _, 0 => Reach.refl _
  | i, j + 1 => (strE_reach e v n i j).trans one_reach
theorem strE_ok {e : En} (h : EnOk e) (v n : Nat) : ∀ j, EnOk (strE e v n j)
  | 0 => h
  | j + 1 => one_ok (strE_ok h v n j)
theorem top_bits (v n j : Nat) (hj : j < n) : 2 * (v % 2 ^ n / 2 ^ (n - j)) + bitOf v (n - 1 - j) = v % 2 ^ n / 2 ^ (n - (j + 1)) := by
  obtain ⟨i, hi⟩ : ∃ i, i = n - 1 - j := ⟨_, rfl⟩
  rw [show n - j = i + 1 by omega, show n - (j + 1) = i by omega, ← hi]
  unfold bitOf
  have e1 : v / 2 ^ i % 2 = v % 2 ^ n / 2 ^ i % 2 := by
    have hp : 2 ^ n = 2 ^ i * 2 ^ (n - i) := by rw [← Nat.pow_add]; congr 1; omega
    rw [hp, Nat.mod_mul_right_div_self]
    have h2 : 2 ^ (n - i) = 2 * 2 ^ (n - i - 1) := by rw [Nat.mul_comm, ← Nat.pow_succ]; congr 1; omega
    rw [h2, Nat.mod_mul_right_mod]
  rw [e1, Nat.pow_succ, ← Nat.div_div_eq_div_mul]
  omega
theorem straight_dec {e : En} {v n : Nat} (hf : Ends bs f) (h : Reach (strE e v n n) f) : ∀ j, j ≤ n → straightGo (decAt bs more e) j = (v % 2 ^ n / 2 ^ (n - j), decAt bs more (strE e v n j))
  | 0, _ => by
    show (0, decAt bs more e) = _
    rw [Nat.sub_zero, Nat.div_eq_of_lt (Nat.mod_lt _ (Nat.two_pow_pos n))]
    rfl
  | j + 1, hj => by
    have ih := straight_dec hf h j (by omega)
    have hr : Reach ((strE e v n j).one (bitOf v (n - 1 - j))) f := by
      have := strE_reach e v n (j + 1) (n - (j + 1))
      rw [show j + 1 + (n - (j + 1)) = n by omega] at this
      exact this.trans h
    show (2 * (straightGo (decAt bs more e) j).1 + (oneD (straightGo (decAt bs more e) j).2).1, (oneD (straightGo (decAt bs more e) j).2).2) = _
    rw [ih, one_dec hf (bitOf_le _ _) hr]
    show (2 * (v % 2 ^ n / 2 ^ (n - j)) + bitOf v (n - 1 - j), _) = _
    rw [top_bits v n j hj]
    rfl

/-! ### trees -/

structure Et where
  m : Nat
  ps : List Nat
  e : En
def Et.step (a b : Nat) (t : Et) : Et := ⟨2 * t.m + b, t.ps.set (a + t.m) (upOf (t.ps.getD (a + t.m) 0) b), t.e.bit (t.ps.getD (a + t.m) 0) b⟩
def treE (bits : Nat → Nat) (a : Nat) (ps : List Nat) (e : En) : Nat → Et
  | 0 => ⟨1, ps, e⟩
  | j + 1 => (treE bits a ps e j).step a (bits j)

theorem treE_ok {bits : Nat → Nat} {a n : Nat} {ps : List Nat} {e : En} (hb : ∀ i, bits i ≤ 1) (he : EnOk e) (hp : PsOk ps) (hl : a + 2 ^ n ≤ ps.length) :
    ∀ j, j ≤ n → EnOk (treE bits a ps e j).e ∧ PsOk (treE bits a ps e j).ps ∧ (treE bits a ps e j).ps.length = ps.length ∧ 2 ^ j ≤ (treE bits a ps e j).m ∧ (treE bits a ps e j).m < 2 ^ (j + 1) := by
  intro j
  induction j with
  | zero => intro _; exact ⟨he, hp, rfl, by simp [treE], by simp [treE]⟩
  | succ j ih =>
    intro hj
    obtain ⟨h1, h2, h3, h4, h5⟩ := ih (by omega)
    show EnOk (Et.step a _ _).e ∧ PsOk (Et.step a _ _).ps ∧ (Et.step a _ _).ps.length = _ ∧ _ ≤ (Et.step a _ _).m ∧ (Et.step a _ _).m < _
    generalize treE bits a ps e j = t at *
    have hpow : 2 ^ (j + 1) ≤ 2 ^ n := Nat.pow_le_pow_right (by omega) hj
    have hg := getD_ok h2 (show a + t.m < t.ps.length by omega)
    have hbj := hb j
    have e1 : 2 ^ (j + 1) = 2 * 2 ^ j := by rw [Nat.pow_succ, Nat.mul_comm]
    have e2 : 2 ^ (j + 1 + 1) = 2 * 2 ^ (j + 1) := by rw [Nat.pow_succ, Nat.mul_comm]
    refine ⟨bit_ok h1 hg, psOk_set h2 _ (pOk_upOf hg), by simp [Et.step, h3], ?_, ?_⟩
    · show _ ≤ 2 * t.m + bits j; omega
    · show 2 * t.m + bits j < _; omega
theorem treE_reach {bits : Nat → Nat} {a n : Nat} {ps : List Nat} {e : En} (hb : ∀ i, bits i ≤ 1) (he : EnOk e) (hp : PsOk ps) (hl : a + 2 ^ n ≤ ps.length) (i : Nat) :
    ∀ j, i + j ≤ n → Reach (treE bits a ps e i).e (treE bits a ps e (i + j)).e := by
  intro j
  induction j with
  | zero => intro _; exact Reach.refl _
  | succ j ih =>
    intro hj
    obtain ⟨h1, h2, h3, h4, h5⟩ := treE_ok hb he hp hl (i + j) (by omega)
    have hpow : 2 ^ (i + j + 1) ≤ 2 ^ n := Nat.pow_le_pow_right (by omega) (by omega)
    have hlt : a + (treE bits a ps e (i + j)).m < (treE bits a ps e (i + j)).ps.length := by omega
    exact (ih (by omega)).trans (bit_reach h1 (getD_ok h2 hlt))

theorem tree_dec {bits : Nat → Nat} {a n : Nat} {ps : List Nat} {e : En} (hf : Ends bs f) (hb : ∀ i, bits i ≤ 1) (he : EnOk e) (hp : PsOk ps) (hl : a + 2 ^ n ≤ ps.length) (h : Reach (treE bits a ps e n).e f) :
    ∀ j, j ≤ n → (Tr.go a (Tr.begin ps (decAt bs more e)) j).m = (treE bits a ps e j).m ∧ (Tr.go a (Tr.begin ps (decAt bs more e)) j).ps = (treE bits a ps e j).ps ∧ (Tr.go a (Tr.begin ps (decAt bs more e)) j).d = decAt bs more (treE bits a ps e j).e ∧
      (Tr.go a (Tr.begin ps (decAt bs more e)) j).v = 2 ^ j := by
  intro j
  induction j with
  | zero => intro _; exact ⟨rfl, rfl, rfl, rfl⟩
  | succ j ih =>
    intro hj
    obtain ⟨i1, i2, i3, i4⟩ := ih (by omega)
    obtain ⟨h1, h2, h3, h4, h5⟩ := treE_ok hb he hp hl j (by omega)
    have hpow : 2 ^ (j + 1) ≤ 2 ^ n := Nat.pow_le_pow_right (by omega) hj
    have hr : Reach ((treE bits a ps e j).e.bit ((treE bits a ps e j).ps.getD (a + (treE bits a ps e j).m) 0) (bits j)) f := by
      have := treE_reach hb he hp hl (j + 1) (n - (j + 1)) (by omega)
      rw [show j + 1 + (n - (j + 1)) = n by omega] at this
      exact this.trans h
    have hd := bit_dec (more := more) hf h1 (getD_ok h2 (show a + (treE bits a ps e j).m < (treE bits a ps e j).ps.length by omega)) (hb j) hr
    show (Tr.step a _).m = (Et.step a _ _).m ∧ (Tr.step a _).ps = (Et.step a _ _).ps ∧ (Tr.step a _).d = decAt bs more (Et.step a _ _).e ∧ (Tr.step a _).v = _
    generalize Tr.go a (Tr.begin ps (decAt bs more e)) j = T at *
    generalize treE bits a ps e j = t at *
    have hbit : T.bit a = (bits j, upOf (t.ps.getD (a + t.m) 0) (bits j), decAt bs more (t.e.bit (t.ps.getD (a + t.m) 0) (bits j))) := by
      unfold Tr.bit
      rw [i1, i2, i3, hd]
    refine ⟨?_, ?_, ?_, ?_⟩
    · show 2 * T.m + (T.bit a).1 = 2 * t.m + bits j
      rw [hbit, i1]
    · show T.ps.set (a + T.m) (T.bit a).2.1 = t.ps.set (a + t.m) _
      rw [hbit, i1, i2]
    · show (T.bit a).2.2 = _
      rw [hbit]
      rfl
    · show 2 * T.v = _
      rw [i4, Nat.pow_succ, Nat.mul_comm]
theorem tree_o {bits : Nat → Nat} {a n : Nat} {ps : List Nat} {e : En} (hf : Ends bs f) (hb : ∀ i, bits i ≤ 1) (he : EnOk e) (hp : PsOk ps) (hl : a + 2 ^ n ≤ ps.length) (h : Reach (treE bits a ps e n).e f) :
    ∀ j, j < n → (Tr.go a (Tr.begin ps (decAt bs more e)) (j + 1)).o = (Tr.go a (Tr.begin ps (decAt bs more e)) j).o + bits j * 2 ^ j := by
  intro j hj
  obtain ⟨i1, i2, i3, i4⟩ := tree_dec (more := more) hf hb he hp hl h j (by omega)
  obtain ⟨k1, _⟩ := tree_dec (more := more) hf hb he hp hl h (j + 1) (by omega)
  have e1 : (Tr.go a (Tr.begin ps (decAt bs more e)) (j + 1)).m = 2 * (Tr.go a (Tr.begin ps (decAt bs more e)) j).m + ((Tr.go a (Tr.begin ps (decAt bs more e)) j).bit a).1 := rfl
  have e2 : (treE bits a ps e (j + 1)).m = 2 * (treE bits a ps e j).m + bits j := rfl
  have hbit : ((Tr.go a (Tr.begin ps (decAt bs more e)) j).bit a).1 = bits j := by omega
  show (Tr.go a (Tr.begin ps (decAt bs more e)) j).o + ((Tr.go a (Tr.begin ps (decAt bs more e)) j).bit a).1 * (Tr.go a (Tr.begin ps (decAt bs more e)) j).v = _
  rw [hbit, i4]

/-- the greatest bit first -/
def topBits (v n : Nat) (j : Nat) : Nat := bitOf v (n - 1 - j)
theorem tree_m {v a n : Nat} {ps : List Nat} {e : En} : ∀ j, j ≤ n → (treE (topBits v n) a ps e j).m = 2 ^ j + v % 2 ^ n / 2 ^ (n - j)
  | 0, _ => by
    rw [Nat.sub_zero, Nat.div_eq_of_lt (Nat.mod_lt _ (Nat.two_pow_pos n))]
    rfl
  | j + 1, hj => by
    show 2 * (treE (topBits v n) a ps e j).m + bitOf v (n - 1 - j) = _
    rw [tree_m j (by omega), ← top_bits v n j hj, Nat.pow_succ]
    omega
theorem low_bits (v j : Nat) : v % 2 ^ j + bitOf v j * 2 ^ j = v % 2 ^ (j + 1) := by
  unfold bitOf
  rw [Nat.pow_succ, Nat.mod_mul, Nat.mul_comm]
theorem rev_o {v a n : Nat} {ps : List Nat} {e : En} (hf : Ends bs f) (he : EnOk e) (hp : PsOk ps) (hl : a + 2 ^ n ≤ ps.length) (h : Reach (treE (bitOf v) a ps e n).e f) :
    ∀ j, j ≤ n → (Tr.go a (Tr.begin ps (decAt bs more e)) j).o = v % 2 ^ j
  | 0, _ => by rw [Nat.pow_zero, Nat.mod_one]; rfl
  | j + 1, hj => by rw [tree_o hf (bitOf_le v) he hp hl h j hj, rev_o hf he hp hl h j (by omega), low_bits]

/-! ### questions -/

/-- what is coded of a question: the probabilities then, and the coder -/
def askE (ps : List Nat) (e : En) (k a n v : Nat) : List Nat × En :=
  if k = 0 then (ps.set a (upOf (ps.getD a 0) (v % 2)), e.bit (ps.getD a 0) (v % 2))
  else if k = 3 then (ps, strE e v n n)
  else if k = 1 then ((treE (topBits v n) a ps e n).ps, (treE (topBits v n) a ps e n).e)
  else ((treE (bitOf v) a ps e n).ps, (treE (bitOf v) a ps e n).e)
def wantOf (k n v : Nat) : Nat := if k = 0 then v % 2 else v % 2 ^ n

end

theorem reach_len {e e' : En} (h : Reach e e') : e.l ≤ e'.l := by obtain ⟨k, h, _⟩ := h; omega
/-! ### lengths -/
theorem even_len (e : En) : e.even.l ≤ e.l + 1 := by unfold En.even; split; exact Nat.le_refl _; omega
theorem bit_len (e : En) (p b : Nat) : (e.bit p b).l ≤ e.l + 1 := by unfold En.bit; split; exact even_len _; exact even_len _
theorem one_len (e : En) (b : Nat) : (e.one b).l ≤ e.l + 1 := by unfold En.one; split; exact even_len _; exact even_len _
theorem strE_len (e : En) (v n : Nat) : ∀ j, (strE e v n j).l ≤ e.l + j
  | 0 => Nat.le_refl _
  | j + 1 => by have := one_len (strE e v n j) (bitOf v (n - 1 - j)); have := strE_len e v n j; show ((strE e v n j).one _).l ≤ _; omega
theorem treE_len (bits : Nat → Nat) (a : Nat) (ps : List Nat) (e : En) : ∀ j, (treE bits a ps e j).e.l ≤ e.l + j
  | 0 => Nat.le_refl _
  | j + 1 => by
    have := treE_len bits a ps e j
    have := bit_len (treE bits a ps e j).e ((treE bits a ps e j).ps.getD (a + (treE bits a ps e j).m) 0) (bits j)
    show ((treE bits a ps e j).e.bit _ _).l ≤ _
    omega
/-! ### bits 0, one behind the other, with one probability -/

def likely : Nat → Nat × En
  | 0 => (1024, En.new)
  | k + 1 => (up0 (likely k).1, (likely k).2.bit (likely k).1 0)
/-- the same, as its range and its length alone -/
def likR (s : Nat × Nat × Nat) : Nat × Nat × Nat := if s.2.1 / 2048 * s.1 < 16777216 then (up0 s.1, s.2.1 / 2048 * s.1 * 256, s.2.2 + 1) else (up0 s.1, s.2.1 / 2048 * s.1, s.2.2)
/-- k bits from s on, the i-th of them all: as many bytes as may be, at each -/
def likOk : Nat → Nat → Nat × Nat × Nat → Bool
  | 0, _, _ => true
  | f + 1, i, s => Nat.ble s.2.2 (12 + i / 40) && likOk f (i + 1) (likR s)
theorem likely_ok : ∀ k, EnOk (likely k).2 ∧ POk (likely k).1
  | 0 => ⟨enOk_new, pOk_fresh⟩
  | k + 1 => ⟨bit_ok (likely_ok k).1 (likely_ok k).2, pOk_up0 (likely_ok k).2⟩
end Go.Proofs.Ytjganponepafpaa

/-
  The packets of LZMA as numbers: one walk through the probabilities, over a machine that tells bits, or codes them.
-/
namespace Go.Proofs.Ytjganponepafpaa

/-- What tells a bit with a probability, or codes the wanted one: the bit, the probability then, the machine; and so many bits straight. -/
structure Mach (σ : Type) where
  bit : σ → Nat → Int → Nat × Nat × σ
  str : σ → Nat → Nat → Nat × σ
  bad : σ → Bool
  enc : Bool
def decM : Mach Dc := ⟨fun d p _ => bitD d p, fun d n _ => straightD n d, fun d => d.isNone, false⟩
def encM : Mach En := ⟨fun e p b => (b.toNat, upOf p b.toNat, e.bit p b.toNat), fun e n v => (v, strE e v n n), fun _ => false, true⟩

/-- probabilities, and a machine -/
structure Pm (σ : Type) where
  ps : List Nat
  x : σ
/-- what is wanted may be -/
def Mach.may {σ : Type} (M : Mach σ) (w : Int) : Prop := M.enc = true → w = 0 ∨ w = 1
def Mach.mayN {σ : Type} (M : Mach σ) (v : Int) : Prop := M.enc = true → 0 ≤ v
/-- bit number i of what is wanted -/
def want (v : Int) (i : Nat) : Int := (v.tdiv ((2 ^ i : Nat) : Int)).tmod 2
theorem want_nat (v i : Nat) : want (v : Int) i = ((bitOf v i : Nat) : Int) := by
  unfold want bitOf
  rw [Int.tdiv_eq_ediv_of_nonneg (by omega), ← Int.natCast_ediv]
  generalize v / 2 ^ i = y
  rw [Int.tmod_eq_emod_of_nonneg (by omega)]
  omega
theorem want_may {σ : Type} {M : Mach σ} {v : Int} (h : M.mayN v) (i : Nat) : M.may (want v i) := by
  intro he
  obtain ⟨n, rfl⟩ := Int.eq_ofNat_of_zero_le (h he)
  rw [want_nat]
  have := bitOf_le n i
  omega

/-- A machine that keeps its bounds; ok k: k bits more may be asked for. -/
structure MachOk {σ : Type} (M : Mach σ) (ok : Nat → σ → Prop) : Prop where
  mono : ∀ {x k k'}, ok k x → k' ≤ k → ok k' x
  bit : ∀ {x k p w}, ok (k + 1) x → POk p → M.may w → (M.bit x p w).1 ≤ 1 ∧ POk (M.bit x p w).2.1 ∧ ok k (M.bit x p w).2.2
  tell : ∀ {x p w}, M.enc = true → (M.bit x p w).1 = w.toNat
  str : ∀ {x k n v}, ok (k + 1) x → n ≤ 32 → (M.enc = true → v < 2 ^ n) → (M.str x n v).1 < 2 ^ n ∧ ok k (M.str x n v).2
def okD : Nat → Dc → Prop := fun _ d => DcOk d
def okE : Nat → En → Prop := fun k e => EnOk e ∧ e.l + 32 * k ≤ 900000000
theorem encM_ok : MachOk encM okE := by
  refine ⟨fun {x k k'} h hk => ⟨h.1, by have := h.2; omega⟩, fun {x k p w} hx hp hw => ?_, fun _ => rfl, fun {x k n v} hx hn hv => ⟨hv rfl, strE_ok hx.1 v n n, ?_⟩⟩
  · have hb : w.toNat ≤ 1 := by rcases hw rfl with h | h <;> omega
    refine ⟨hb, pOk_upOf hp, bit_ok hx.1 hp, ?_⟩
    have := bit_len x p w.toNat
    have := hx.2
    show (x.bit p w.toNat).l + _ ≤ _
    omega
  · have := strE_len x v n n
    have := hx.2
    show (strE x v n n).l + _ ≤ _
    omega

/-- probabilities in their bounds, so many, and a machine that may be asked for k bits -/
structure PmOk {σ : Type} (ok : Nat → σ → Prop) (L k : Nat) (t : Pm σ) : Prop where
  ps : PsOk t.ps
  len : t.ps.length = L
  x : ok k t.x

section
variable {σ : Type} (M : Mach σ)

def bitP (t : Pm σ) (a : Nat) (w : Int) : Nat × Pm σ := ((M.bit t.x (t.ps.getD a 0) w).1, ⟨t.ps.set a (M.bit t.x (t.ps.getD a 0) w).2.1, (M.bit t.x (t.ps.getD a 0) w).2.2⟩)

theorem bitP_ok {M : Mach σ} {ok : Nat → σ → Prop} (h : MachOk M ok) {L k a : Nat} {w : Int} {t : Pm σ} (ht : PmOk ok L (k + 1) t) (ha : a < L) (hw : M.may w) : (bitP M t a w).1 ≤ 1 ∧ PmOk ok L k (bitP M t a w).2 := by
  obtain ⟨h1, h2, h3⟩ := h.bit ht.x (getD_ok ht.ps (show a < t.ps.length by rw [ht.len]; exact ha)) hw
  exact ⟨h1, psOk_set ht.ps _ h2, by show (t.ps.set _ _).length = L; rw [List.length_set]; exact ht.len, h3⟩
theorem PmOk.mono {M : Mach σ} {ok : Nat → σ → Prop} (h : MachOk M ok) {L k k' : Nat} {t : Pm σ} (ht : PmOk ok L k t) (hk : k' ≤ k) : PmOk ok L k' t := ⟨ht.ps, ht.len, h.mono ht.x hk⟩

/-- a number of bits on its way: m leads through the tree, o is the number with the least bit first -/
structure Tg (σ : Type) where
  m : Nat
  o : Nat
  t : Pm σ
def tgStep (a i : Nat) (w : Int) (s : Tg σ) : Tg σ := ⟨2 * s.m + (bitP M s.t (a + s.m) w).1, s.o + (bitP M s.t (a + s.m) w).1 * 2 ^ i, (bitP M s.t (a + s.m) w).2⟩
/-- behind the first j of n bits, the greatest first -/
def treeG (t : Pm σ) (a n : Nat) (v : Int) : Nat → Tg σ
  | 0 => ⟨1, 0, t⟩
  | j + 1 => tgStep M a j (want v (n - 1 - j)) (treeG t a n v j)
def treeP (t : Pm σ) (a n : Nat) (v : Int) : Nat × Pm σ := ((treeG M t a n v n).m - 2 ^ n, (treeG M t a n v n).t)
theorem tgStep_ok {M : Mach σ} {ok : Nat → σ → Prop} (h : MachOk M ok) {L k a i : Nat} {w : Int} {s : Tg σ} (ht : PmOk ok L (k + 1) s.t) (ha : a + s.m < L) (hw : M.may w) :
    PmOk ok L k (tgStep M a i w s).t ∧ 2 * s.m ≤ (tgStep M a i w s).m ∧ (tgStep M a i w s).m ≤ 2 * s.m + 1 ∧ (tgStep M a i w s).o ≤ s.o + 2 ^ i := by
  obtain ⟨h1, h2⟩ := bitP_ok h ht ha hw
  refine ⟨h2, Nat.le_add_right _ _, by show 2 * s.m + _ ≤ _; omega, ?_⟩
  show s.o + (bitP M s.t (a + s.m) w).1 * 2 ^ i ≤ _
  have := Nat.mul_le_mul_right (2 ^ i) h1
  omega
theorem treeG_ok {M : Mach σ} {ok : Nat → σ → Prop} (h : MachOk M ok) {L k a n : Nat} {v : Int} {t : Pm σ} (ht : PmOk ok L (k + n) t) (ha : a + 2 ^ n ≤ L) (hv : M.mayN v) :
    ∀ j, j ≤ n → PmOk ok L (k + n - j) (treeG M t a n v j).t ∧ 2 ^ j ≤ (treeG M t a n v j).m ∧ (treeG M t a n v j).m < 2 ^ (j + 1)
  | 0, _ => ⟨ht, Nat.le_refl _, by show 1 < 2 ^ 1; decide⟩
  | j + 1, hj => by
    obtain ⟨h1, h2, h3⟩ := treeG_ok h ht ha hv j (by omega)
    have hp : 2 ^ (j + 1) ≤ 2 ^ n := Nat.pow_le_pow_right (by omega) hj
    obtain ⟨k1, k2, k3, _⟩ := tgStep_ok (i := j) h (k := k + n - (j + 1)) (a := a) (w := want v (n - 1 - j)) (by rw [show k + n - (j + 1) + 1 = k + n - j by omega]; exact h1) (by omega) (want_may hv _)
    refine ⟨k1, ?_, ?_⟩
    · show 2 ^ (j + 1) ≤ (tgStep M a j _ _).m
      rw [Nat.pow_succ]; omega
    · show (tgStep M a j _ _).m < 2 ^ (j + 1 + 1)
      rw [Nat.pow_succ 2 (j + 1)]; omega
theorem treeP_ok {M : Mach σ} {ok : Nat → σ → Prop} (h : MachOk M ok) {L k a n : Nat} {v : Int} {t : Pm σ} (ht : PmOk ok L (k + n) t) (ha : a + 2 ^ n ≤ L) (hv : M.mayN v) : (treeP M t a n v).1 < 2 ^ n ∧ PmOk ok L k (treeP M t a n v).2 := by
  obtain ⟨h1, h2, h3⟩ := treeG_ok h ht ha hv n (Nat.le_refl _)
  rw [show k + n - n = k by omega] at h1
  refine ⟨?_, h1⟩
  show (treeG M t a n v n).m - 2 ^ n < 2 ^ n
  rw [Nat.pow_succ] at h3
  omega

/-- the least first -/
def revG (t : Pm σ) (a : Nat) (v : Int) : Nat → Tg σ
  | 0 => ⟨1, 0, t⟩
  | j + 1 => tgStep M a j (want v j) (revG t a v j)
def revP (t : Pm σ) (a n : Nat) (v : Int) : Nat × Pm σ := ((revG M t a v n).o, (revG M t a v n).t)

theorem revG_ok {M : Mach σ} {ok : Nat → σ → Prop} (h : MachOk M ok) {L k a n : Nat} {v : Int} {t : Pm σ} (ht : PmOk ok L (k + n) t) (ha : a + 2 ^ n ≤ L) (hv : M.mayN v) :
    ∀ j, j ≤ n → PmOk ok L (k + n - j) (revG M t a v j).t ∧ 2 ^ j ≤ (revG M t a v j).m ∧ (revG M t a v j).m < 2 ^ (j + 1) ∧ (revG M t a v j).o < 2 ^ j
  | 0, _ => ⟨ht, Nat.le_refl _, by show 1 < 2 ^ 1; decide, by show 0 < 1; decide⟩
  | j + 1, hj => by
    obtain ⟨h1, h2, h3, h4⟩ := revG_ok h ht ha hv j (by omega)
    have hp : 2 ^ (j + 1) ≤ 2 ^ n := Nat.pow_le_pow_right (by omega) hj
    obtain ⟨k1, k2, k3, k4⟩ := tgStep_ok (i := j) h (k := k + n - (j + 1)) (a := a) (w := want v j) (by rw [show k + n - (j + 1) + 1 = k + n - j by omega]; exact h1) (by omega) (want_may hv _)
    refine ⟨k1, ?_, ?_, ?_⟩
    · show 2 ^ (j + 1) ≤ (tgStep M a j _ _).m
      rw [Nat.pow_succ]; omega
    · show (tgStep M a j _ _).m < 2 ^ (j + 1 + 1)
      rw [Nat.pow_succ 2 (j + 1)]; omega
    · show (tgStep M a j _ _).o < 2 ^ (j + 1)
      rw [Nat.pow_succ]; omega
theorem revP_ok {M : Mach σ} {ok : Nat → σ → Prop} (h : MachOk M ok) {L k a n : Nat} {v : Int} {t : Pm σ} (ht : PmOk ok L (k + n) t) (ha : a + 2 ^ n ≤ L) (hv : M.mayN v) : (revP M t a n v).1 < 2 ^ n ∧ PmOk ok L k (revP M t a n v).2 := by
  obtain ⟨h1, _, _, h4⟩ := revG_ok h ht ha hv n (Nat.le_refl _)
  rw [show k + n - n = k by omega] at h1
  exact ⟨h4, h1⟩

/-- what is told, and where, but for probabilities and machine -/
structure Lzs where
  lc : Nat
  lp : Nat
  pb : Nat
  dict : Nat
  out : List UInt8
  st : Nat
  r0 : Nat
  r1 : Nat
  r2 : Nat
  r3 : Nat
  ended : Bool
  bad : Bool

/-- the byte at a distance -/
def Lzs.has (z : Lzs) (d : Nat) : Bool := decide (d < z.out.length ∧ d < z.dict)
def Lzs.back (z : Lzs) (d : Nat) : UInt8 := if z.has d = true then z.out.getD (z.out.length - 1 - d) 0 else 0

/-- the places of the probabilities -/
def litAt (z : Lzs) : Nat := 1847 + 768 * (z.out.length % 2 ^ z.lp * 2 ^ z.lc + (z.back 0).toNat / 2 ^ (8 - z.lc))
def litSt (s : Nat) : Nat := if s < 4 then 0 else if s < 10 then s - 3 else s - 6

/-- a literal on its way: whether its bits still are those of the other byte -/
structure Lg (σ : Type) where
  m : Nat
  same : Bool
  t : Pm σ
def lgStep (a : Nat) (y w : Int) (s : Lg σ) : Lg σ :=
  if s.same = true then
    ⟨2 * s.m + (bitP M s.t (a + 256 * (1 + y.toNat) + s.m) w).1, decide ((bitP M s.t (a + 256 * (1 + y.toNat) + s.m) w).1 = y.toNat), (bitP M s.t (a + 256 * (1 + y.toNat) + s.m) w).2⟩
  else ⟨2 * s.m + (bitP M s.t (a + s.m) w).1, false, (bitP M s.t (a + s.m) w).2⟩
def litG (t : Pm σ) (a : Nat) (other v : UInt8) (same : Bool) : Nat → Lg σ
  | 0 => ⟨1, same, t⟩
  | j + 1 => lgStep M a (want (other.toNat : Int) (7 - j)) (want (v.toNat : Int) (7 - j)) (litG t a other v same j)
def litP (z : Lzs) (t : Pm σ) (v : UInt8) : Nat × Pm σ :=
  ((litG M t (litAt z) (z.back z.r0) v (decide (7 ≤ z.st)) 8).m, (litG M t (litAt z) (z.back z.r0) v (decide (7 ≤ z.st)) 8).t)

/-- a length, by the lengths at a place: behind the second bit, behind the first, all -/
def lenB (b : Nat × Pm σ) (a s : Nat) (v : Int) : Nat × Pm σ :=
  if b.1 = 0 then (8 + (treeP M b.2 (a + 130 + 8 * s) 3 (v - 8)).1, (treeP M b.2 (a + 130 + 8 * s) 3 (v - 8)).2)
  else (16 + (treeP M b.2 (a + 258) 8 (v - 16)).1, (treeP M b.2 (a + 258) 8 (v - 16)).2)
def lenA (b : Nat × Pm σ) (a s : Nat) (v : Int) : Nat × Pm σ :=
  if b.1 = 0 then treeP M b.2 (a + 2 + 8 * s) 3 v else lenB M (bitP M b.2 (a + 1) (min (v.tdiv 16) 1)) a s v
def lenP (t : Pm σ) (a s : Nat) (v : Int) : Nat × Pm σ := lenA M (bitP M t a (min (v.tdiv 8) 1)) a s v

theorem may_min {M : Mach σ} {v c : Int} (hc : 1 ≤ c) (h : M.mayN v) : M.may (min (v.tdiv c) 1) := by
  intro he
  have h0 := h he
  rw [Int.tdiv_eq_ediv_of_nonneg h0]
  have := Int.ediv_nonneg h0 (show 0 ≤ c by omega)
  omega
/-- where the bit that was wanted is told, what is left may be wanted -/
theorem may_less {M : Mach σ} {ok : Nat → σ → Prop} (h : MachOk M ok) {t : Pm σ} {a : Nat} {v c : Int} (hc : 1 ≤ c) (hv : M.mayN v) (hb : ¬ (bitP M t a (min (v.tdiv c) 1)).1 = 0) : M.mayN (v - c) := by
  intro he
  have h0 := hv he
  have ht : (bitP M t a (min (v.tdiv c) 1)).1 = (min (v.tdiv c) 1).toNat := h.tell he
  rw [ht, Int.tdiv_eq_ediv_of_nonneg h0] at hb
  have h1 : 1 ≤ v / c := by omega
  have h2 := (Int.le_ediv_iff_mul_le (show 0 < c by omega)).1 h1
  omega
theorem lenP_ok {M : Mach σ} {ok : Nat → σ → Prop} (h : MachOk M ok) {L k a s : Nat} {v : Int} {t : Pm σ} (ht : PmOk ok L (k + 10) t) (ha : a + 514 ≤ L) (hs : s ≤ 15) (hv : M.mayN v) : (lenP M t a s v).1 < 272 ∧ PmOk ok L k (lenP M t a s v).2 := by
  obtain ⟨b1, p1⟩ := bitP_ok h (k := k + 9) ht (show a < L by omega) (may_min (c := 8) (by decide) hv)
  unfold lenP lenA
  split
  · obtain ⟨h1, h2⟩ := treeP_ok h (k := k) (n := 3) (a := a + 2 + 8 * s) (p1.mono h (show k + 3 ≤ k + 9 by omega)) (by show a + 2 + 8 * s + 8 ≤ L; omega) hv
    have h1 : _ < 8 := h1
    exact ⟨by omega, h2⟩
  · rename_i hb
    have hv8 := may_less h (by decide) hv hb
    obtain ⟨b2, p2⟩ := bitP_ok h (k := k + 8) p1 (show a + 1 < L by omega) (may_min (c := 16) (by decide) hv)
    unfold lenB
    split
    · obtain ⟨h1, h2⟩ := treeP_ok h (k := k) (n := 3) (a := a + 130 + 8 * s) (p2.mono h (show k + 3 ≤ k + 8 by omega)) (by show a + 130 + 8 * s + 8 ≤ L; omega) hv8
      have h1 : _ < 8 := h1
      exact ⟨by show 8 + _ < 272; omega, h2⟩
    · rename_i hb2
      have hv16 := may_less h (by decide) hv hb2
      obtain ⟨h1, h2⟩ := treeP_ok h (k := k) (n := 8) (a := a + 258) p2 (by show a + 258 + 256 ≤ L; omega) hv16
      have h1 : _ < 256 := h1
      exact ⟨by show 16 + _ < 272; omega, h2⟩

/-- the slot of a distance: what is left of it, and how often it was halved -/
def slotGo : Nat → Nat × Nat → Nat × Nat
  | 0, s => s
  | f + 1, s => if 4 ≤ s.1 then slotGo f (s.1 / 2, s.2 + 1) else s
def slotOf (d : Nat) : Nat := 2 * (slotGo 32 (d, 0)).2 + (slotGo 32 (d, 0)).1

/-- a distance: behind the straight bits, behind the slot, all -/
def distC (b : Nat × σ) (ps : List Nat) (base v : Nat) : Nat × Pm σ :=
  (base + 16 * b.1 + (revP M ⟨ps, b.2⟩ 803 4 ((v % 16 : Nat) : Int)).1, (revP M ⟨ps, b.2⟩ 803 4 ((v % 16 : Nat) : Int)).2)
def distB (b : Nat × Pm σ) (v : Nat) : Nat × Pm σ :=
  if b.1 < 4 then b
  else if b.1 < 14 then
    ((2 + b.1 % 2) * 2 ^ (b.1 / 2 - 1) + (revP M b.2 (688 + (2 + b.1 % 2) * 2 ^ (b.1 / 2 - 1) - b.1) (b.1 / 2 - 1) ((v : Int) - ((2 + b.1 % 2) * 2 ^ (b.1 / 2 - 1) : Nat))).1,
      (revP M b.2 (688 + (2 + b.1 % 2) * 2 ^ (b.1 / 2 - 1) - b.1) (b.1 / 2 - 1) ((v : Int) - ((2 + b.1 % 2) * 2 ^ (b.1 / 2 - 1) : Nat))).2)
  else distC M (M.str b.2.x (b.1 / 2 - 1 - 4) ((v + 4294967296 - (2 + b.1 % 2) * 2 ^ (b.1 / 2 - 1)) % 4294967296 / 16)) b.2.ps ((2 + b.1 % 2) * 2 ^ (b.1 / 2 - 1)) v
def distP (t : Pm σ) (l v : Nat) : Nat × Pm σ := distB M (treeP M t (432 + 64 * min l 3) 6 (slotOf v : Int)) v

/-- which packet it is, bit by bit from the last one: the kind, whether it is bad, what is left -/
def chI (c : Prop) [Decidable c] : Int := if c then 0 else 1
def kd5 (b : Nat × Pm σ) : Nat × Bool × Pm σ := (if b.1 = 0 then 4 else 5, false, b.2)
def kd4 (b : Nat × Pm σ) (st : Nat) (k : Int) : Nat × Bool × Pm σ := if b.1 = 0 then (3, false, b.2) else kd5 (bitP M b.2 (228 + st) (chI (k = 4)))
def kdL (b : Nat × Pm σ) : Nat × Bool × Pm σ := (if b.1 = 0 then 6 else 2, false, b.2)
def kd3 (b : Nat × Pm σ) (st s : Nat) (k : Int) : Nat × Bool × Pm σ := if b.1 = 0 then kdL (bitP M b.2 (240 + 16 * st + s) (chI (k = 6))) else kd4 M (bitP M b.2 (216 + st) (chI (k = 3))) st k
def kd2 (b : Nat × Pm σ) (empty : Bool) (st s : Nat) (k : Int) : Nat × Bool × Pm σ := if b.1 = 0 then (1, false, b.2) else if empty = true then (6, true, b.2) else kd3 M (bitP M b.2 (204 + st) (chI (k = 2 ∨ k = 6))) st s k
def kd1 (b : Nat × Pm σ) (empty : Bool) (st s : Nat) (k : Int) : Nat × Bool × Pm σ := if b.1 = 0 then (0, false, b.2) else kd2 M (bitP M b.2 (192 + st) (chI (k = 1 ∨ k = 7))) empty st s k
def kindP (t : Pm σ) (empty : Bool) (st s : Nat) (k : Int) : Nat × Bool × Pm σ := kd1 M (bitP M t (16 * st + s) (min k 1)) empty st s k
end
theorem chI_may {σ : Type} {M : Mach σ} (c : Prop) [Decidable c] : M.may (chI c) := fun _ => by unfold chI; split <;> simp
end Go.Proofs.Ytjganponepafpaa

/-
  What a bit costs, in sixteenths of a bit, and what a probability has in store.
-/
namespace Go.Proofs.Ytjganponepafpaa

/-- behind some bits that cost c in all a coder is no longer than that -/
def Bud (e : En) (c : Nat) : Prop := 4294967295 ^ 16 * 2 ^ (128 * (e.l - 5)) ≤ e.r ^ 16 * 2 ^ c
theorem bud_new : Bud En.new 0 := Nat.le_refl _
theorem Bud.mono {e : En} {c c' : Nat} (h : Bud e c) (hc : c ≤ c') : Bud e c' := Nat.le_trans h (Nat.mul_le_mul_left _ (Nat.pow_le_pow_right (by decide) hc))
theorem Bud.even {e : En} {c : Nat} (h : Bud e c) (h5 : 5 ≤ e.l) : Bud e.even c := by
  unfold En.even
  split
  · show 4294967295 ^ 16 * 2 ^ (128 * (e.l + 1 - 5)) ≤ (e.r * 256) ^ 16 * 2 ^ c
    have e1 : 4294967295 ^ 16 * 2 ^ (128 * (e.l + 1 - 5)) = 4294967295 ^ 16 * 2 ^ (128 * (e.l - 5)) * 2 ^ 128 := by
      rw [show 128 * (e.l + 1 - 5) = 128 * (e.l - 5) + 128 by omega, Nat.pow_add, Nat.mul_assoc]
    have e2 : (e.r * 256) ^ 16 * 2 ^ c = e.r ^ 16 * 2 ^ c * 2 ^ 128 := by
      rw [Nat.mul_pow, show (256 : Nat) ^ 16 = 2 ^ 128 by decide, Nat.mul_right_comm]
    rw [e1, e2]
    exact Nat.mul_le_mul_right _ h
  · exact h
theorem Bud.len {e : En} {c : Nat} (h : Bud e c) (hr : e.r < 4294967296) : 128 * (e.l - 5) ≤ 16 + c := by
  obtain ⟨k, hk⟩ : ∃ k, k = 512 := ⟨_, rfl⟩
  obtain ⟨k', hk'⟩ : ∃ k, k = 496 := ⟨_, rfl⟩
  have h1 : e.r ^ 16 ≤ 2 ^ k := by
    have : e.r ^ 16 ≤ (2 ^ 32) ^ 16 := Nat.pow_le_pow_left (by omega) 16
    rwa [← Nat.pow_mul, show 32 * 16 = k by omega] at this
  have h0 : 2 ^ k' ≤ 4294967295 ^ 16 := by
    have : (2 ^ 31) ^ 16 ≤ 4294967295 ^ 16 := Nat.pow_le_pow_left (by decide) 16
    rwa [← Nat.pow_mul, show 31 * 16 = k' by omega] at this
  have h2 : 2 ^ k' * 2 ^ (128 * (e.l - 5)) ≤ 2 ^ k * 2 ^ c := Nat.le_trans (Nat.mul_le_mul_right _ h0) (Nat.le_trans h (Nat.mul_le_mul_right _ h1))
  rw [← Nat.pow_add, ← Nat.pow_add] at h2
  have h3 := (Nat.pow_le_pow_iff_right (show 1 < 2 by decide)).1 h2
  omega
theorem pow_step {r r' q w A M : Nat} (hM : M = A ^ 16) (hA : 0 < A) (h2 : r * q ≤ r' * A) (hw : M ≤ q ^ 16 * 2 ^ w) : r ^ 16 ≤ r' ^ 16 * 2 ^ w := by
  have h3 : r ^ 16 * q ^ 16 ≤ r' ^ 16 * M := by
    rw [hM, ← Nat.mul_pow, ← Nat.mul_pow]
    exact Nat.pow_le_pow_left h2 16
  have hpos : 0 < M := by rw [hM]; exact Nat.pow_pos hA
  refine Nat.le_of_mul_le_mul_right ?_ hpos
  have g1 : r ^ 16 * M ≤ r ^ 16 * (q ^ 16 * 2 ^ w) := Nat.mul_le_mul_left _ hw
  have g2 : r ^ 16 * q ^ 16 * 2 ^ w ≤ r' ^ 16 * M * 2 ^ w := Nat.mul_le_mul_right _ h3
  rw [Nat.mul_assoc] at g2
  rw [Nat.mul_right_comm]
  exact Nat.le_trans g1 g2
/-- a bit of likelihood q -/
theorem bud_bit {r r' q w n l : Nat} (hr : 16777216 ≤ r) (hr' : r / 2048 * q ≤ r') (hw : (2048 * 8192) ^ 16 ≤ (q * 8191) ^ 16 * 2 ^ w) {e : En} {c : Nat} (h : Bud ⟨n, l, r⟩ c) (he : e.r = r') (hl : e.l = l) : Bud e (c + w) := by
  have h1 : r * 8191 ≤ r / 2048 * (2048 * 8192) := by omega
  have h2 : r * (q * 8191) ≤ r' * (2048 * 8192) := by
    have e1 : r * (q * 8191) = r * 8191 * q := by rw [Nat.mul_comm q 8191, Nat.mul_assoc]
    have e2 : r / 2048 * (2048 * 8192) * q = r / 2048 * q * (2048 * 8192) := Nat.mul_right_comm _ _ _
    rw [e1]
    exact Nat.le_trans (Nat.mul_le_mul_right q h1) (by rw [e2]; exact Nat.mul_le_mul_right _ hr')
  obtain ⟨M, hM⟩ : ∃ M, M = (2048 * 8192) ^ 16 := ⟨_, rfl⟩
  rw [← hM] at hw
  have h4 : r ^ 16 ≤ r' ^ 16 * 2 ^ w := pow_step hM (by decide) h2 hw
  unfold Bud at h ⊢
  rw [he, hl]
  refine Nat.le_trans h ?_
  show r ^ 16 * 2 ^ c ≤ r' ^ 16 * 2 ^ (c + w)
  rw [Nat.add_comm c w, Nat.pow_add, ← Nat.mul_assoc]
  exact Nat.mul_le_mul_right _ h4
/-- what a bit of likelihood q costs -/
def wOf (q : Nat) : Nat :=
  bif Nat.blt q 992 then 98 else bif Nat.blt q 1025 then 17 else bif Nat.blt q 1070 then 16 else bif Nat.blt q 1117 then 15 else bif Nat.blt q 1167 then 14 else bif Nat.blt q 1218 then 13 else bif Nat.blt q 1272 then 12 else bif Nat.blt q 1329 then 11 else bif Nat.blt q 1387 then 10 else bif Nat.blt q 1449 then 9 else bif Nat.blt q 1513 then 8 else bif Nat.blt q 1580 then 7 else bif Nat.blt q 1650 then 6 else bif Nat.blt q 1723 then 5 else bif Nat.blt q 1799 then 4 else bif Nat.blt q 1879 then 3 else bif Nat.blt q 1962 then 2 else 1
/-- likelihood of what stays -/
def upQ (q : Nat) : Nat := q + (2048 - q) / 32
/-- what staying costs beyond 12 a time -/
def stoG : Nat → Nat → Nat
  | 0, _ => 0
  | f + 1, q => bif Nat.blt q 1218 then wOf q + stoG f (upQ q) - 12 else 0
def sto (q : Nat) : Nat := stoG 9 q
def okW (q : Nat) : Bool := Nat.ble ((2048 * 8192) ^ 16) ((q * 8191) ^ 16 * 2 ^ wOf q) && Nat.ble (wOf q) 98
def okS (q : Nat) : Bool := Nat.ble (wOf q + sto (upQ q)) (12 + sto q) && Nat.ble (sto q) 22
theorem okW_all : ((List.range 1987).all fun i => okW (i + 31)) = true := by decide +kernel
theorem okS_all : ((List.range 1026).all fun i => okS (i + 992)) = true := by decide +kernel
theorem okW_at {q : Nat} (h : POk q) : (2048 * 8192) ^ 16 ≤ (q * 8191) ^ 16 * 2 ^ wOf q ∧ wOf q ≤ 98 := by
  have h1 := List.all_eq_true.1 okW_all (q - 31) (List.mem_range.2 (by have := h.2; omega))
  have h0 := h.1
  rw [show q - 31 + 31 = q by omega] at h1
  unfold okW at h1
  obtain ⟨h2, h3⟩ := Bool.and_eq_true_iff.1 h1
  exact ⟨Nat.le_of_ble_eq_true h2, Nat.le_of_ble_eq_true h3⟩
theorem okS_at {q : Nat} (h : POk q) (h9 : 992 ≤ q) : wOf q + sto (upQ q) ≤ 12 + sto q ∧ sto q ≤ 22 := by
  have h1 := List.all_eq_true.1 okS_all (q - 992) (List.mem_range.2 (by have := h.2; omega))
  rw [show q - 992 + 992 = q by omega] at h1
  unfold okS at h1
  obtain ⟨h2, h3⟩ := Bool.and_eq_true_iff.1 h1
  exact ⟨Nat.le_of_ble_eq_true h2, Nat.le_of_ble_eq_true h3⟩
/-- the likelihood of a bit -/
def qOf (p b : Nat) : Nat := if b = 0 then p else 2048 - p
theorem qOf_ok {p b : Nat} (h : POk p) : POk (qOf p b) := by
  unfold qOf POk at *
  split <;> omega
theorem qOf_same {p b : Nat} (h : POk p) : qOf (upOf p b) b = upQ (qOf p b) := by
  unfold qOf upOf upQ up0 up1
  have := h.1
  have := h.2
  split
  · rfl
  · omega
theorem qOf_other {p b b' : Nat} (h : POk p) : qOf p b' - qOf p b' / 32 ≤ qOf (upOf p b) b' := by
  unfold qOf upOf up0 up1
  have := h.1
  have := h.2
  split <;> split <;> omega
theorem Bud.bit {e : En} {c p b : Nat} (h : Bud e c) (he : EnOk e) (hp : POk p) : Bud (e.bit p b) (c + wOf (qOf p b)) := by
  obtain ⟨h1, h2, h5, _⟩ := he
  obtain ⟨hw, _⟩ := okW_at (qOf_ok (b := b) hp)
  unfold En.bit
  by_cases hb : b = 0
  · rw [if_pos hb]
    refine Bud.even ?_ h5
    unfold qOf at hw ⊢
    rw [if_pos hb] at hw ⊢
    exact bud_bit (r := e.r) (n := e.n) (l := e.l) h1 (Nat.le_refl _) hw h rfl rfl
  · rw [if_neg hb]
    refine Bud.even ?_ h5
    unfold qOf at hw ⊢
    rw [if_neg hb] at hw ⊢
    refine bud_bit (r := e.r) (r' := e.r - e.r / 2048 * p) (n := e.n) (l := e.l) h1 ?_ hw h rfl rfl
    have hm : e.r / 2048 * (2048 - p) + e.r / 2048 * p = e.r / 2048 * 2048 := by rw [← Nat.mul_add]; congr 1; have := hp.2; omega
    have := Nat.div_mul_le_self e.r 2048
    omega
end Go.Proofs.Ytjganponepafpaa
