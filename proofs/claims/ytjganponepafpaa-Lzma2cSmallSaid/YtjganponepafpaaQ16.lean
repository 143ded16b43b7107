/-
  PtNum, PtYng, PtRun, CkNum, CkAwk: put together.
-/
import Derived.Test.YtjganponepafpaaQ04
import Derived.Test.YtjganponepafpaaQ15
set_option linter.unusedVariables false
set_option linter.unusedSimpArgs false
/-
  What the packets tell that are found: just the bytes.
-/
namespace Go.Proofs.Ytjganponepafpaa
open Go.RowKit

/-- where the finder stands, and what was told -/
structure Par (b : List UInt8) (dict : Nat) (s : Ps) (z : Lzs) : Prop where
  out : z.out = b.take s.i
  le : s.i ≤ b.length
  r0 : z.r0 = s.r0
  r1 : z.r1 = s.r1
  r2 : z.r2 = s.r2
  r3 : z.r3 = s.r3
  bad : z.bad = false
  ended : z.ended = false
  dict : z.dict = dict

theorem take_push {b : List UInt8} {i : Nat} (h : i < b.length) : b.take i ++ [b.getD i 0] = b.take (i + 1) := by
  rw [List.take_add_one, List.getElem?_eq_getElem h, List.getD_eq_getElem?_getD, List.getElem?_eq_getElem h]
  rfl
theorem copyN_par {b : List UInt8} : ∀ (n i : Nat) (z : Lzs), z.out = b.take i → i + n ≤ b.length → z.r0 < i → z.r0 < z.dict → (∀ j, j < n → b.getD (i + j) 0 = b.getD (i + j - (z.r0 + 1)) 0) →
    (copyN n z).out = b.take (i + n) ∧ (copyN n z).r0 = z.r0 ∧ (copyN n z).r1 = z.r1 ∧ (copyN n z).r2 = z.r2 ∧ (copyN n z).r3 = z.r3
  | 0, i, z, h1, _, _, _, _ => ⟨h1, rfl, rfl, rfl, rfl⟩
  | n + 1, i, z, h1, h2, h3, h4, h5 => by
    have hlen : z.out.length = i := by rw [h1, List.length_take]; omega
    have hhas : z.has z.r0 = true := decide_eq_true ⟨by rw [hlen]; exact h3, h4⟩
    have hb : z.back z.r0 = b.getD i 0 := by
      unfold Lzs.back
      rw [if_pos hhas, hlen, h1]
      have h0 := h5 0 (by omega)
      rw [Nat.add_zero] at h0
      rw [h0, List.getD_eq_getElem?_getD, List.getD_eq_getElem?_getD, List.getElem?_take_of_lt (by omega), show i - 1 - z.r0 = i - (z.r0 + 1) by omega]
    have ho : (z.push (z.back z.r0)).out = b.take (i + 1) := by
      show z.out ++ [_] = _
      rw [hb, h1]
      exact take_push (by omega)
    obtain ⟨a1, a2, a3, a4, a5⟩ := copyN_par n (i + 1) (z.push (z.back z.r0)) ho (by omega) (by show z.r0 < i + 1; omega) h4 (fun j hj => by
      have := h5 (j + 1) (by omega)
      rw [show i + (j + 1) = i + 1 + j by omega] at this
      exact this)
    rw [show i + 1 + n = i + (n + 1) by omega] at a1
    exact ⟨a1, a2, a3, a4, a5⟩
/-- a copy's bytes -/
theorem cp_same {b : List UInt8} {dict e i d n : Nat} (h : cpN b dict e i d = n) (hn : 0 < n) : d < i ∧ d < dict ∧ n ≤ 273 ∧ i + n ≤ e ∧ ∀ j, j < n → b.getD (i + j) 0 = b.getD (i + j - (d + 1)) 0 := by
  have hle := cpN_le b dict e i d
  unfold cpN at h hle
  split at h
  · rename_i hc
    rw [if_pos hc] at hle
    refine ⟨hc.1, hc.2, by omega, by omega, fun j hj => eqN_same b (d + 1) _ i j (by rw [h]; exact hj)⟩
  · omega
theorem rep_is {b : List UInt8} {dict : Nat} {s : Ps} {z : Lzs} (h : Par b dict s z) {k : Nat} (hk : k < 4) : z.rep k = s.rep k := by
  match k, hk with
  | 0, _ => exact h.r0
  | 1, _ => exact h.r1
  | 2, _ => exact h.r2
  | 3, _ => exact h.r3

section
variable {b : List UInt8} {dict e L N k : Nat} {s : Ps} {z : Lzs} {t : Pm En}
theorem Par.len (h : Par b dict s z) : z.out.length = s.i := by
  rw [h.out, List.length_take]
  have := h.le
  omega
theorem has_is (h : Par b dict s z) {d : Nat} (h1 : d < s.i) (h2 : d < dict) : z.has d = true := decide_eq_true ⟨by rw [h.len]; exact h1, by rw [h.dict]; exact h2⟩

theorem par_step (h : Par b dict s z) (hi : s.i < e) (he : e ≤ b.length) (hz : ZNear z L N) (ht : PmOk okE L (k + 27) t) :
    PqLit (stepF b dict e s).1 ∧ fitsP z (stepF b dict e s).1.k (stepF b dict e s).1.v.toNat (stepF b dict e s).1.n = true ∧ Par b dict (stepF b dict e s).2 (packP encM z t (stepF b dict e s).1.pk).2.1 := by
  have hdd : dict < 4294967296 := by rw [← h.dict]; exact hz.dict
  have hend := h.ended
  unfold stepF stepG
  split
  · rename_i hr
    have hlt := eld_lt (b := b) (dict := dict) (e := e) (s := s)
    have hbest : cpN b dict e s.i (s.rep (eldP b dict e s).1) = (eldP b dict e s).2 := (best_is _ _ (show 0 < (eldP b dict e s).2 by have := hr.1; omega)).2.1
    generalize eldP b dict e s = r at *
    obtain ⟨j, n⟩ := r
    dsimp only at *
    obtain ⟨c1, c2, c3, c4, c5⟩ := cp_same hbest (by omega)
    have hrep := rep_is h hlt
    have hhas : z.has (z.rep j) = true := by rw [hrep]; exact has_is h c1 c2
    have hj4 : j = 0 ∨ j = 1 ∨ j = 2 ∨ j = 3 := by omega
    have hfit : fitsP z (2 + (j : Int)) ((0 : Int)).toNat (n : Int) = true := by
      unfold fitsP lateP hasP
      rw [hend, decide_eq_false (by omega)]
      rcases hj4 with rfl | rfl | rfl | rfl
      · exact hhas
      · exact hhas
      · exact hhas
      · exact hhas
    refine ⟨⟨⟨by show _ ≤ 2 + (j : Int); omega, by show 2 + (j : Int) ≤ _; omega⟩, ⟨by show (0 : Int) ≤ 0; omega, by show (0 : Int) ≤ 255; omega⟩, ⟨by show _ ≤ (n : Int); omega, by show (n : Int) ≤ _; omega⟩, ⟨by show (0 : Int) ≤ 0; omega, by show (0 : Int) ≤ _; omega⟩⟩, hfit, ?_⟩
    have hpk : (packP encM z t (⟨2 + (j : Int), 0, (n : Int), 0⟩ : Pq).pk).2.1 = copyN n { z.again j with st := aft 8 11 z.st } := by
      have := packE_again (t := t) (d := 0) (b := 0) h.bad hend (j := j) (n := n) (by omega) hr.1 c3 hhas
      rw [show ((j + 2 : Nat) : Int) = 2 + (j : Int) by omega] at this
      exact congrArg Prod.fst this
    rw [hpk]
    have ho : ({ z.again j with st := aft 8 11 z.st } : Lzs).out = b.take s.i := h.out
    have hr0 : ({ z.again j with st := aft 8 11 z.st } : Lzs).r0 = s.rep j := hrep
    obtain ⟨a1, a2, a3, a4, a5⟩ := copyN_par n s.i ({ z.again j with st := aft 8 11 z.st } : Lzs) ho (by omega) (by rw [hr0]; exact c1) (by rw [hr0]; show _ < z.dict; rw [h.dict]; exact c2) (by rw [hr0]; exact c5)
    obtain ⟨b1, b2, _, _, _, _, b7⟩ := copyN_keep n ({ z.again j with st := aft 8 11 z.st } : Lzs)
    have hi' := Ps.raise_i s n j
    refine ⟨by rw [hi']; exact a1, by rw [hi']; omega, ?_, ?_, ?_, ?_, b1.trans h.bad, b2.trans hend, b7.trans h.dict⟩
    · rw [a2, hr0]
      rcases hj4 with rfl | rfl | rfl | rfl <;> rfl
    · rw [a3]
      rcases hj4 with rfl | rfl | rfl | rfl
      · exact h.r1
      · exact h.r0
      · exact h.r0
      · exact h.r0
    · rw [a4]
      rcases hj4 with rfl | rfl | rfl | rfl
      · exact h.r2
      · exact h.r2
      · exact h.r1
      · exact h.r1
    · rw [a5]
      rcases hj4 with rfl | rfl | rfl | rfl
      · exact h.r3
      · exact h.r3
      · exact h.r3
      · exact h.r2
  · split
    · rename_i hm
      have hp : 0 < lonM b dict e s := by rcases hm with hm | hm <;> omega
      obtain ⟨m2, m3⟩ := lonM_pos hp
      have hl0 : 0 < (lonP b dict e s).2 := by omega
      have hbest : cpN b dict e s.i (lonP b dict e s).1 = (lonP b dict e s).2 := (best_is _ _ hl0).2.1
      rw [m3]
      rw [m3] at m2
      generalize lonP b dict e s = r at *
      obtain ⟨d, n⟩ := r
      dsimp only at *
      obtain ⟨c1, c2, c3, c4, c5⟩ := cp_same hbest hl0
      have hhas : z.has d = true := has_is h c1 c2
      have hfit : fitsP z 1 ((d : Int)).toNat (n : Int) = true := by
        rw [Int.toNat_natCast]
        unfold fitsP lateP hasP
        rw [hend, decide_eq_false (by omega)]
        exact hhas
      refine ⟨⟨⟨by show _ ≤ (1 : Int); omega, by show (1 : Int) ≤ _; omega⟩, ⟨by show (0 : Int) ≤ 0; omega, by show (0 : Int) ≤ 255; omega⟩, ⟨by show _ ≤ (n : Int); omega, by show (n : Int) ≤ _; omega⟩, ⟨by show (0 : Int) ≤ (d : Int); omega, by show (d : Int) ≤ _; omega⟩⟩, hfit, ?_⟩
      have hL0 : 1847 ≤ L := by have := hz.len; omega
      have hs15 : z.out.length % 2 ^ z.pb ≤ 15 := by
        have h1 : z.out.length % 2 ^ z.pb < 2 ^ z.pb := Nat.mod_lt _ (Nat.two_pow_pos _)
        have h2 : 2 ^ z.pb ≤ 2 ^ 4 := pow_le_of hz.pb
        omega
      have hkok := (kindP_ok encM_ok (k := k + 22) (em := decide (z.out.length = 0)) (kd := 1) (t := t) ht hL0 hs15 hz.st (fun _ => by decide)).2
      have hlk := (lenP_ok encM_ok (k := k + 12) (a := 819) (s := z.out.length % 2 ^ z.pb) (v := ((n - 2 : Nat) : Int)) hkok (by omega) (mod_pb hz.pb) (fun _ => by omega)).2
      have hpk : (packP encM z t (⟨1, 0, (n : Int), (d : Int)⟩ : Pq).pk).2.1 = copyN n { z with r0 := d, r1 := z.r0, r2 := z.r1, r3 := z.r2, st := aft 7 10 z.st } :=
        congrArg Prod.fst (packE_match (t := t) (b := 0) h.bad hend m2 c3 hhas hz.dict ⟨k, _, hL0, hlk⟩)
      rw [hpk]
      obtain ⟨a1, a2, a3, a4, a5⟩ := copyN_par n s.i ({ z with r0 := d, r1 := z.r0, r2 := z.r1, r3 := z.r2, st := aft 7 10 z.st } : Lzs) h.out (by omega) c1 (by show _ < z.dict; rw [h.dict]; exact c2) c5
      obtain ⟨b1, b2, _, _, _, _, b7⟩ := copyN_keep n ({ z with r0 := d, r1 := z.r0, r2 := z.r1, r3 := z.r2, st := aft 7 10 z.st } : Lzs)
      exact ⟨a1, by show s.i + n ≤ _; omega, a2, a3.trans h.r0, a4.trans h.r1, a5.trans h.r2, b1.trans h.bad, b2.trans hend, b7.trans h.dict⟩
    · split
      · rename_i hc
        obtain ⟨c1, c2, c3, c4, c5⟩ := cp_same (n := cpN b dict e s.i s.r0) rfl hc
        have hhas : z.has z.r0 = true := by rw [h.r0]; exact has_is h c1 c2
        have hfit : fitsP z 6 ((0 : Int)).toNat 0 = true := by
          unfold fitsP lateP hasP
          rw [hend, decide_eq_false (by omega)]
          exact hhas
        refine ⟨⟨⟨by show _ ≤ (6 : Int); omega, by show (6 : Int) ≤ _; omega⟩, ⟨by show (0 : Int) ≤ 0; omega, by show (0 : Int) ≤ 255; omega⟩, ⟨by show _ ≤ (0 : Int); omega, by show (0 : Int) ≤ _; omega⟩, ⟨by show (0 : Int) ≤ 0; omega, by show (0 : Int) ≤ _; omega⟩⟩, hfit, ?_⟩
        have hpk : (packP encM z t (⟨6, 0, 0, 0⟩ : Pq).pk).2.1 = copyN 1 { z with st := aft 9 11 z.st } := congrArg Prod.fst (packE_single (t := t) (d := 0) (len := 0) (b := 0) h.bad hend hhas)
        rw [hpk]
        obtain ⟨a1, a2, a3, a4, a5⟩ := copyN_par 1 s.i ({ z with st := aft 9 11 z.st } : Lzs) h.out (by omega) (by show z.r0 < _; rw [h.r0]; exact c1) (by show z.r0 < z.dict; rw [h.r0, h.dict]; exact c2) (fun j hj => by show _ = b.getD (s.i + j - (z.r0 + 1)) 0; rw [h.r0]; exact c5 j (by omega))
        obtain ⟨b1, b2, _, _, _, _, b7⟩ := copyN_keep 1 ({ z with st := aft 9 11 z.st } : Lzs)
        exact ⟨a1, by show s.i + 1 ≤ _; omega, a2.trans h.r0, a3.trans h.r1, a4.trans h.r2, a5.trans h.r3, b1.trans h.bad, b2.trans hend, b7.trans h.dict⟩
      · have hb8 := (b.getD s.i 0).toNat_lt
        have hfit : fitsP z 0 ((0 : Int)).toNat 0 = true := lit_fits hend
        refine ⟨⟨⟨by show _ ≤ (0 : Int); omega, by show (0 : Int) ≤ _; omega⟩, ⟨by show (0 : Int) ≤ ((b.getD s.i 0).toNat : Int); omega, by show ((b.getD s.i 0).toNat : Int) ≤ 255; omega⟩, ⟨by show _ ≤ (0 : Int); omega, by show (0 : Int) ≤ _; omega⟩, ⟨by show (0 : Int) ≤ 0; omega, by show (0 : Int) ≤ _; omega⟩⟩, hfit, ?_⟩
        have hpk : (packP encM z t (⟨0, ((b.getD s.i 0).toNat : Int), 0, 0⟩ : Pq).pk).2.1 = ({ z with st := litSt z.st } : Lzs).push (b.getD s.i 0) := by
          have eb : (⟨0, ((b.getD s.i 0).toNat : Int), 0, 0⟩ : Pq).pk = ⟨0, 0, 0, b.getD s.i 0⟩ := by
            show (⟨0, 0, 0, UInt8.ofNat (((b.getD s.i 0).toNat : Int)).toNat⟩ : Pk) = _
            rw [Int.toNat_natCast, UInt8.ofNat_toNat]
          rw [eb]
          exact congrArg Prod.fst (packE_lit (t := t) (d := 0) (len := 0) h.bad)
        rw [hpk]
        refine ⟨?_, by show s.i + 1 ≤ _; omega, h.r0, h.r1, h.r2, h.r3, h.bad, hend, h.dict⟩
        show z.out ++ [_] = b.take (s.i + 1)
        rw [h.out]
        exact take_push (by omega)
end
end Go.Proofs.Ytjganponepafpaa

/-
  The coder's blocks, all above a bound; its distances.
-/
namespace Go.Proofs.Ytjganponepafpaa
open Go.RowKit

/-- all blocks are B or above -/
structure Young (B : Nat) (K : Koc) (Ge Gt : Option Nat) : Prop where
  g : B ≤ K.g
  l : B ≤ K.lb
  e : B ≤ K.eg
  ge : ∀ i, Ge = some i → B ≤ i
  gt : ∀ i, Gt = some i → B ≤ i
theorem Young.all {B : Nat} {K : Koc} {Ge Gt : Option Nat} (h : Young B K Ge Gt) {i : Nat} (hi : K.all Ge Gt i) : B ≤ i := by
  rcases hi with (e | e | e | e) | e
  · exact e ▸ h.e
  · exact h.ge i e
  · exact e ▸ h.g
  · exact e ▸ h.l
  · exact h.gt i e
theorem Young.step {B : Nat} {K : Koc} {w : World} {Ge Ge' Gt Gt' : Option Nat} (h : Young B K Ge Gt) (h1 : Nwr w Ge Ge') (h2 : Nwr w Gt Gt') (hB : B ≤ w.heap.size) : Young B K Ge' Gt' :=
  ⟨h.g, h.l, h.e, fun i hi => by rcases h1 i hi with e | e; exact h.ge i e; omega, fun i hi => by rcases h2 i hi with e | e; exact h.gt i e; omega⟩

def Lzs.puts (z : Lzs) (xs : List UInt8) : Lzs := { z with out := z.out ++ xs }
section
variable {K : Koc} {w w' : World} {Ge : Option Nat} {A : Option Addr} {c : Nat} {z : Lzs} {k : Nat} {t : Pm En}
set_option maxRecDepth 100000 in
set_option maxHeartbeats 2000000 in
/-- the elder distances -/
theorem creps_any (h : Cw K w Ge A c z k t) :
    Calls Try.prog 40 #[.pointer (some ⟨K.g, 0, none⟩)] w fun e w' => e = .returned (.agg #[.int .u32 (z.r0 : Int), .int .u32 (z.r1 : Int), .int .u32 (z.r2 : Int), .int .u32 (z.r3 : Int)]) ∧ Only (fun _ => False) w w' := by
  have hq := h.quiet ((Only.refl (fun _ => False) w).alloc (.cells #[.int .u32 0, .int .u32 0, .int .u32 0, .int .u32 0] 24))
  have c7 := hq.f.c7
  have c8 := hq.f.c8
  have c9 := hq.f.c9
  have c10 := hq.f.c10
  have hB := Blk.fresh w 24 #[.int .u32 (z.r0 : Int), .int .u32 (z.r1 : Int), .int .u32 (z.r2 : Int), .int .u32 (z.r3 : Int)]
  have k0 := hB.cell 0
  have k1 := hB.cell 1
  have k2 := hB.cell 2
  have k3 := hB.cell 3
  have HK := Lib.hid (And.intro k0 (And.intro k1 (And.intro k2 k3)))
  clear h hq hB k0 k1 k2 k3
  go_enter Try.func40, Try.ntmps40
  go_wp2_with fail
  obtain ⟨k0, k1, k2, k3⟩ := HK.out
  refine bodyPost_ret (v := .agg #[.int .u32 (z.r0 : Int), .int .u32 (z.r1 : Int), .int .u32 (z.r2 : Int), .int .u32 (z.r3 : Int)]) (by simp [results, Try.results40, go_sem, k0, k1, k2, k3]) rfl ⟨rfl, (Only.refl _ w).alloc _⟩

end
end Go.Proofs.Ytjganponepafpaa

/-
  The coder goes through the packets that were found.
-/
namespace Go.Proofs.Ytjganponepafpaa
open Go.RowKit

section
variable {b : List UInt8} {dict e : Nat} {s : Ps}
theorem go_len_is : ∀ n, (goF b dict e s n).2.i < e → (goF b dict e s n).1.length = n
  | 0, _ => rfl
  | n + 1, h => by
    by_cases hl : (goF b dict e s n).2.i < e
    · rw [go_succ hl, List.length_append, go_len_is n hl]
      rfl
    · rw [go_same hl] at h
      exact absurd h hl
theorem go_get : ∀ n h, h < (goF b dict e s n).1.length → (goF b dict e s h).2.i < e ∧ (goF b dict e s n).1[h]? = some (stepF b dict e (goF b dict e s h).2).1 ∧ goF b dict e s (h + 1) = ((goF b dict e s h).1 ++ [(stepF b dict e (goF b dict e s h).2).1], (stepF b dict e (goF b dict e s h).2).2)
  | 0, h, hh => absurd hh (Nat.not_lt_zero h)
  | n + 1, h, hh => by
    by_cases hl : (goF b dict e s n).2.i < e
    · have hlen := go_len_is n hl
      rw [go_succ hl] at hh ⊢
      rw [List.length_append, hlen] at hh
      have hh : h < n + 1 := hh
      by_cases he : h = n
      · subst he
        refine ⟨hl, ?_, go_succ hl⟩
        show ((goF b dict e s h).1 ++ [_])[h]? = _
        rw [List.getElem?_append_right (by omega), hlen, Nat.sub_self]
        rfl
      · obtain ⟨a1, a2, a3⟩ := go_get n h (by omega)
        refine ⟨a1, ?_, a3⟩
        show ((goF b dict e s n).1 ++ [_])[h]? = _
        rw [List.getElem?_append_left (by omega)]
        exact a2
    · rw [go_same hl] at hh ⊢
      exact go_get n h hh
theorem go_full (n : Nat) : goF b dict e s (goF b dict e s n).1.length = goF b dict e s n := by
  induction n with
  | zero => rfl
  | succ n ih =>
    by_cases hl : (goF b dict e s n).2.i < e
    · rw [go_succ hl, List.length_append, go_len_is n hl]
      exact go_succ hl
    · rw [go_same hl]
      exact ih
end

/-- the coder behind so many packets -/
def runT (q : Nat → Pq) (st : Lzs × Pm En) : Nat → Lzs × Pm En
  | 0 => st
  | h + 1 => stepP (runT q st h) (q h).pk
/-- what holds behind each -/
structure Tol (b : List UInt8) (dict L k : Nat) (s : Ps) (st : Lzs × Pm En) : Prop where
  par : Par b dict s st.1
  near : ZNear st.1 L b.length
  ok : PmOk okE L k st.2
theorem near_out {z : Lzs} {L N M : Nat} (h : ZNear z L N) (hM : z.out.length ≤ M) : ZNear z L M := ⟨h.lc, h.lp, h.pb, h.dict, hM, h.st, h.r0, h.r1, h.r2, h.r3, h.len⟩
theorem tol_step {b : List UInt8} {dict e L k : Nat} {s : Ps} {st : Lzs × Pm En} (h : Tol b dict L (k + 27) s st) (hi : s.i < e) (he : e ≤ b.length) :
    PqLit (stepF b dict e s).1 ∧ fitsP st.1 (stepF b dict e s).1.k (stepF b dict e s).1.v.toNat (stepF b dict e s).1.n = true ∧ Tol b dict L k (stepF b dict e s).2 (stepP st (stepF b dict e s).1.pk) := by
  obtain ⟨p1, p2, p3⟩ := par_step h.par hi he h.near h.ok
  obtain ⟨f1, f2, f3⟩ := fits_pk p1 p2
  obtain ⟨n1, n2, _⟩ := packP_near encM_ok (k := k) h.near h.ok f1 f2
  have hst : stepP st (stepF b dict e s).1.pk = (packP encM st.1 st.2 (stepF b dict e s).1.pk).2 := if_pos p2
  rw [hst]
  exact ⟨p1, p2, p3, near_out n1 (by rw [p3.len]; exact p3.le), n2⟩
theorem tol_run {b : List UInt8} {dict e L m k : Nat} {s : Ps} {st : Lzs × Pm En} {q : Nat → Pq} (h0 : Tol b dict L (k + 27 * m) s st) (he : e ≤ b.length) (n : Nat) (hm : (goF b dict e s n).1.length = m) (hq : ∀ h, h < m → q h = (stepF b dict e (goF b dict e s h).2).1) :
    ∀ h, h ≤ m → Tol b dict L (k + 27 * (m - h)) (goF b dict e s h).2 (runT q st h)
  | 0, _ => h0
  | h + 1, hh => by
    have ih := tol_run h0 he n hm hq h (by omega)
    obtain ⟨g1, _, g3⟩ := go_get (b := b) (dict := dict) (e := e) (s := s) n h (by rw [hm]; omega)
    rw [show k + 27 * (m - h) = (k + 27 * (m - (h + 1))) + 27 by omega] at ih
    obtain ⟨_, _, t3⟩ := tol_step ih g1 he
    rw [g3]
    show Tol _ _ _ _ _ (stepP (runT q st h) (q h).pk)
    rw [hq h (by omega)]
    exact t3
end Go.Proofs.Ytjganponepafpaa

/-
  What LZMA2's coder makes of bytes: numbers.
-/
namespace Go.Proofs.Ytjganponepafpaa
open Go.RowKit

/-- so many bytes of a number, the greatest first -/
def beB : Nat → Nat → List UInt8
  | 0, _ => []
  | l + 1, n => beB l (n / 256) ++ [UInt8.ofNat (n % 256)]
theorem beB_len : ∀ l n, (beB l n).length = l
  | 0, _ => rfl
  | l + 1, n => by
    show (beB l (n / 256) ++ [_]).length = _
    rw [List.length_append, beB_len l]
    rfl
theorem beB_be : ∀ l n, n < 256 ^ l → be (beB l n) = n
  | 0, n, h => by
    have : n = 0 := by simpa using h
    subst this
    rfl
  | l + 1, n, h => by
    show be (beB l (n / 256) ++ [_]) = _
    rw [be_snoc, beB_be l (n / 256) (by rw [Nat.pow_succ] at h; omega), UInt8.toNat_ofNat']
    omega
theorem beB_of {bs : List UInt8} {n l : Nat} (h : be bs = n) (hl : bs.length = l) : bs = beB l n :=
  be_inj _ _ (by rw [hl, beB_len]) (by rw [beB_be _ _ (by rw [← h]; exact be_lt bs l hl)]; exact h)

/-- state, distances and probabilities begin anew -/
def reS (s : Lzs × Pm En) : Lzs × Pm En := ({ s.1 with st := 0, r0 := 0, r1 := 0, r2 := 0, r3 := 0 }, ⟨List.replicate s.2.ps.length 1024, s.2.x⟩)
/-- the stream was told -/
def finS (s : Lzs × Pm En) : Lzs × Pm En := (s.1, ⟨s.2.ps, En.new⟩)
def preS (how : Nat) (s : Lzs × Pm En) : Lzs × Pm En := if how = 0 then s else reS s
/-- the packets of the bytes from F to T -/
def findS (b : List UInt8) (dict F T : Nat) (z : Lzs) : List Pq := (findF b dict T ⟨F, z.r0, z.r1, z.r2, z.r3⟩).1
def runL (L : List Pq) (s : Lzs × Pm En) : Lzs × Pm En := runT (fun h => L.getD h ⟨0, 0, 0, 0⟩) s L.length
def strS (b : List UInt8) (dict F T how : Nat) (s : Lzs × Pm En) : Lzs × Pm En := runL (findS b dict F T (preS how s).1) (preS how s)
def strB (s : Lzs × Pm En) : List UInt8 := beB s.2.x.l s.2.x.n

theorem copyG_like : ∀ (f n : Nat) (z : Lzs), Like z (copyG f n z).2
  | 0, _, z => Like.refl z
  | f + 1, n, z => by
    by_cases h : z.has z.r0 = true
    · rw [copyG_go h]
      have := copyG_like f (n + 1) (z.push (z.back z.r0))
      exact ⟨this.lc, this.lp, this.pb, this.dict⟩
    · rw [copyG_stop h]
      exact ⟨rfl, rfl, rfl, rfl⟩
theorem tailP_like {σ : Type} (M : Mach σ) (many : Nat) (z : Lzs) (t : Pm σ) : Like z (tailP M many z t).2.1 := by
  unfold tailP
  split
  · exact ⟨rfl, rfl, rfl, rfl⟩
  · exact copyG_like _ _ _
theorem packP_like {σ : Type} (M : Mach σ) (z : Lzs) (t : Pm σ) (p : Pk) : Like z (packP M z t p).2.1 := by
  unfold packP packK
  generalize kindP M t _ _ _ _ = kb
  split
  · unfold packL
    split
    · exact ⟨rfl, rfl, rfl, rfl⟩
    · exact ⟨rfl, rfl, rfl, rfl⟩
  split
  · unfold packM packD
    have := tailP_like M (((lenP M kb.2.2 819 (z.out.length % 2 ^ z.pb) (if p.kind = 7 then 0 else p.len - 2))).1 + 2)
    generalize lenP M kb.2.2 819 _ _ = b at *
    generalize distP M b.2 b.1 _ = dd
    have := this { z with bad := z.bad || kb.2.1, r0 := dd.1, r1 := z.r0, r2 := z.r1, r3 := z.r2, st := aft 7 10 z.st, ended := decide (dd.1 = 4294967295) && !M.bad dd.2.x } dd.2
    exact ⟨this.lc, this.lp, this.pb, this.dict⟩
  split
  · have := tailP_like M 1 { z with bad := z.bad || kb.2.1, st := aft 9 11 z.st } kb.2.2
    exact ⟨this.lc, this.lp, this.pb, this.dict⟩
  · unfold packR
    generalize lenP M kb.2.2 1333 _ _ = b
    have := tailP_like M (b.1 + 2) { Lzs.again { z with bad := z.bad || kb.2.1 } (kb.1 - 2) with st := aft 8 11 z.st } b.2
    exact ⟨this.lc, this.lp, this.pb, this.dict⟩

/-- what holds between two pieces -/
structure Cmd (b : List UInt8) (dict L F : Nat) (s : Lzs × Pm En) : Prop where
  par : Par b dict ⟨F, s.1.r0, s.1.r1, s.1.r2, s.1.r3⟩ s.1
  near : ZNear s.1 L b.length
  ps : PsOk s.2.ps
  len : s.2.ps.length = L
  x : s.2.x = En.new

theorem okE_new {k : Nat} (h : k ≤ 28000000) : okE k En.new := ⟨enOk_new, by show 5 + 32 * k ≤ _; omega⟩
section
variable {b : List UInt8} {dict L F T k how : Nat} {s : Lzs × Pm En}
theorem Cmd.pm (h : Cmd b dict L F s) (hk : k ≤ 28000000) : PmOk okE L k s.2 := ⟨h.ps, h.len, by rw [h.x]; exact okE_new hk⟩
theorem Cmd.tol (h : Cmd b dict L F s) (hk : k ≤ 28000000) : Tol b dict L k ⟨F, s.1.r0, s.1.r1, s.1.r2, s.1.r3⟩ s := ⟨h.par, h.near, h.pm hk⟩
theorem Cmd.re (h : Cmd b dict L F s) : Cmd b dict L F (reS s) := by
  have p := h.par
  have n := h.near
  refine ⟨⟨p.out, p.le, rfl, rfl, rfl, rfl, p.bad, p.ended, p.dict⟩, ⟨n.lc, n.lp, n.pb, n.dict, n.out, Nat.zero_le _, (by decide : 0 < 4294967296), (by decide : 0 < 4294967296), (by decide : 0 < 4294967296), (by decide : 0 < 4294967296), n.len⟩, ?_, ?_, h.x⟩
  · intro p hp
    have hp : p ∈ List.replicate s.2.ps.length 1024 := hp
    rw [List.eq_of_mem_replicate hp]
    exact ⟨by decide, by decide⟩
  · show (List.replicate s.2.ps.length 1024).length = _
    rw [List.length_replicate]
    exact h.len
theorem Cmd.pre (h : Cmd b dict L F s) : Cmd b dict L F (preS how s) := by
  unfold preS
  split
  · exact h
  · exact h.re

end

/-- all streams have five bytes at least -/
def okE5 : Nat → En → Prop := fun k e => okE k e ∧ 5 ≤ e.l
theorem encM_ok5 : MachOk encM okE5 := by
  refine ⟨fun {x k k'} h hk => ⟨encM_ok.mono h.1 hk, h.2⟩, fun {x k p w} hx hp hw => ?_, fun h => encM_ok.tell h, fun {x k n v} hx hn hv => ?_⟩
  · obtain ⟨a1, a2, a3⟩ := encM_ok.bit hx.1 hp hw
    refine ⟨a1, a2, a3, ?_⟩
    obtain ⟨m, hm, _⟩ : Reach x (x.bit p w.toNat) := bit_reach hx.1.1 hp
    have := hx.2
    show 5 ≤ (x.bit p w.toNat).l
    omega
  · obtain ⟨a1, a2⟩ := encM_ok.str hx.1 hn hv
    refine ⟨a1, a2, ?_⟩
    obtain ⟨m, hm, _⟩ : Reach (strE x v n 0) (strE x v n (0 + n)) := strE_reach x v n 0 n
    rw [Nat.zero_add] at hm
    have hm : (strE x v n n).l = x.l + m := hm
    have := hx.2
    show 5 ≤ (strE x v n n).l
    omega

section
variable {b : List UInt8} {dict L F T k how : Nat} {s : Lzs × Pm En}
/-- what the packets are that are found, and where the coder is behind them -/
theorem str_all (h : Cmd b dict L F s) (hF : F ≤ T) (hT : T ≤ b.length) (hn : b.length ≤ 1000000) (Q : List Pq) (hQ : Q = findS b dict F T s.1) :
    (∀ h, h < Q.length → PqLit (Q.getD h ⟨0, 0, 0, 0⟩) ∧ fitsP (runT (fun h => Q.getD h ⟨0, 0, 0, 0⟩) s h).1 (Q.getD h ⟨0, 0, 0, 0⟩).k (Q.getD h ⟨0, 0, 0, 0⟩).v.toNat (Q.getD h ⟨0, 0, 0, 0⟩).n = true ∧
      ZNear (runT (fun h => Q.getD h ⟨0, 0, 0, 0⟩) s h).1 L b.length ∧ (runT (fun h => Q.getD h ⟨0, 0, 0, 0⟩) s h).1.bad = false ∧ PmOk okE L (27 * (Q.length - h)) (runT (fun h => Q.getD h ⟨0, 0, 0, 0⟩) s h).2) ∧
    Q.length ≤ T ∧ Cmd b dict L T (finS (runL Q s)) ∧ 5 ≤ (runL Q s).2.x.l ∧ (runL Q s).1.ended = false ∧ EnOk (runL Q s).2.x ∧ (runL Q s).2.x.l ≤ 900000000 ∧ (runL Q s).1.lc = s.1.lc ∧ (runL Q s).1.lp = s.1.lp ∧ (runL Q s).1.pb = s.1.pb := by
  unfold runL
  obtain ⟨q, hq⟩ : ∃ q : Nat → Pq, q = fun h => Q.getD h ⟨0, 0, 0, 0⟩ := ⟨_, rfl⟩
  have hqv : ∀ h, Q.getD h ⟨0, 0, 0, 0⟩ = q h := fun h => by rw [hq]
  simp only [hqv]
  obtain ⟨s0, hs00⟩ : ∃ s0 : Ps, s0 = ⟨F, s.1.r0, s.1.r1, s.1.r2, s.1.r3⟩ := ⟨_, rfl⟩
  have hgo : Q = (goF b dict T s0 T).1 := by rw [hQ, hs00]; rfl
  have hi0 : s0.i = F := by rw [hs00]
  have hlen : Q.length ≤ T := by rw [hgo]; exact go_len T
  have hs0 : Tol b dict L (0 + 27 * Q.length) s0 s := by
    rw [hs00]
    exact h.tol (by omega)
  have hm : (goF b dict T s0 T).1.length = Q.length := by rw [hgo]
  have hqs : ∀ h, h < Q.length → q h = (stepF b dict T (goF b dict T s0 h).2).1 := fun h hh => by
    obtain ⟨_, g2, _⟩ := go_get (b := b) (dict := dict) (e := T) (s := s0) T h (by rw [hm]; exact hh)
    rw [← hgo] at g2
    rw [← hqv, List.getD_eq_getElem?_getD, g2]
    rfl
  have htol := tol_run hs0 hT T hm hqs
  have hall : ∀ h, h < Q.length → PqLit (q h) ∧ fitsP (runT q s h).1 (q h).k (q h).v.toNat (q h).n = true ∧ ZNear (runT q s h).1 L b.length ∧ (runT q s h).1.bad = false ∧ PmOk okE L (27 * (Q.length - h)) (runT q s h).2 := by
    intro h hh
    have h1 := htol h (by omega)
    obtain ⟨g1, _, _⟩ := go_get (b := b) (dict := dict) (e := T) (s := s0) T h (by rw [hm]; exact hh)
    have h2 := h1
    rw [show 0 + 27 * (Q.length - h) = (27 * (Q.length - (h + 1))) + 27 by omega] at h2
    obtain ⟨p1, p2, _⟩ := tol_step h2 g1 hT
    rw [← hqs h hh] at p1 p2
    have hok := h1.ok
    rw [Nat.zero_add] at hok
    exact ⟨p1, p2, h1.near, h1.par.bad, hok⟩
  have h1 := htol Q.length (Nat.le_refl _)
  have hfull := go_full (b := b) (dict := dict) (e := T) (s := s0) T
  rw [hm] at hfull
  have hend : (goF b dict T s0 T).2.i = T := by
    have e1 := go_end (b := b) (dict := dict) (e := T) (s := s0) (by rw [hi0]; exact hF) T
    by_cases hl : (goF b dict T s0 T).2.i < T
    · have e2 := go_more (b := b) (dict := dict) (e := T) (s := s0) T hl
      omega
    · omega
  rw [hfull] at h1
  have hp := h1.par
  have hfive : ∀ j, j ≤ Q.length → PmOk okE5 L (27 * (Q.length - j)) (runT q s j).2 ∧ (runT q s j).1.lc = s.1.lc ∧ (runT q s j).1.lp = s.1.lp ∧ (runT q s j).1.pb = s.1.pb := by
    intro j
    induction j with
    | zero => exact fun _ => ⟨⟨h.ps, h.len, by show okE5 _ s.2.x; rw [h.x]; exact ⟨okE_new (by omega), by decide⟩⟩, rfl, rfl, rfl⟩
    | succ j ih =>
      intro hj
      obtain ⟨i1, i2, i3, i4⟩ := ih (by omega)
      obtain ⟨a1, a2, a3, a4, a5⟩ := hall j (by omega)
      obtain ⟨f1, f2, f3⟩ := fits_pk a1 a2
      rw [show 27 * (Q.length - j) = 27 * (Q.length - (j + 1)) + 27 by omega] at i1
      obtain ⟨n1, n2, _⟩ := packP_near encM_ok5 a3 i1 f1 f2
      have hst : stepP (runT q s j) (q j).pk = (packP encM (runT q s j).1 (runT q s j).2 (q j).pk).2 := if_pos a2
      show PmOk okE5 L _ (stepP (runT q s j) (q j).pk).2 ∧ (stepP (runT q s j) (q j).pk).1.lc = _ ∧ (stepP (runT q s j) (q j).pk).1.lp = _ ∧ (stepP (runT q s j) (q j).pk).1.pb = _
      rw [hst]
      obtain ⟨k1, k2, k3, _⟩ := packP_like encM (runT q s j).1 (runT q s j).2 (q j).pk
      exact ⟨n2, k1.trans i2, k2.trans i3, k3.trans i4⟩
  obtain ⟨g1, g2, g3, g4⟩ := hfive Q.length (Nat.le_refl _)
  refine ⟨hall, hlen, ⟨?_, h1.near, h1.ok.ps, h1.ok.len, rfl⟩, g1.x.2, hp.ended, g1.x.1.1, ?_, g2, g3, g4⟩
  · have hout := hp.out
    rw [hend] at hout
    exact ⟨hout, hT, rfl, rfl, rfl, rfl, hp.bad, hp.ended, hp.dict⟩
  · have h9 : (runT q s Q.length).2.x.l + 32 * (27 * (Q.length - Q.length)) ≤ 900000000 := g1.x.1.2
    show (runT q s Q.length).2.x.l ≤ 900000000
    omega
end

/-- what goes on from piece to piece: what the next brings, the coder, what was told -/
structure Ckn where
  how : Nat
  s : Lzs × Pm En
  out : List UInt8
def cntB (n : Nat) : List UInt8 := [UInt8.ofNat ((n - 1) / 256), UInt8.ofNat ((n - 1) % 256)]
def packedB (how : Nat) (p0 : UInt8) (n : Nat) (st : List UInt8) : List UInt8 :=
  [UInt8.ofNat (128 + 32 * how)] ++ cntB n ++ cntB st.length ++ (if 2 ≤ how then [p0] else []) ++ st
def plainB (how : Nat) (xs : List UInt8) : List UInt8 := [if how = 3 then 1 else 2] ++ cntB xs.length ++ xs
def nextH (how : Nat) : Nat := if how = 3 then 2 else if how = 0 then 1 else how
/-- a piece of n bytes, told while the coder stands at at_ -/
def pieceN (b : List UInt8) (p0 : UInt8) (dict at_ : Nat) (xs : List UInt8) (k : Ckn) : Ckn :=
  if (strS b dict (min at_ b.length) (min (at_ + xs.length) b.length) k.how k.s).2.x.l < xs.length then
    ⟨0, finS (strS b dict (min at_ b.length) (min (at_ + xs.length) b.length) k.how k.s), k.out ++ packedB k.how p0 xs.length (strB (strS b dict (min at_ b.length) (min (at_ + xs.length) b.length) k.how k.s))⟩
  else ⟨nextH k.how, finS (strS b dict (min at_ b.length) (min (at_ + xs.length) b.length) k.how k.s), k.out ++ plainB k.how xs⟩
/-- piece number j -/
def cutB (b : List UInt8) (p j : Nat) : List UInt8 := (b.drop (j * p)).take p
theorem cutB_len (b : List UInt8) (p j : Nat) : (cutB b p j).length = min p (b.length - j * p) := by
  unfold cutB
  rw [List.length_take, List.length_drop]
def stepQ (b : List UInt8) (p0 : UInt8) (dict p : Nat) (a : Nat × Ckn) (j : Nat) : Nat × Ckn := (a.1 + (cutB b p j).length, pieceN b p0 dict a.1 (cutB b p j) a.2)
/-- behind pieces of these numbers -/
def foldQ (b : List UInt8) (p0 : UInt8) (dict p : Nat) (s : Lzs × Pm En) (js : List Nat) : Nat × Ckn := js.foldl (stepQ b p0 dict p) (0, ⟨3, s, []⟩)
theorem foldQ_snoc (b : List UInt8) (p0 : UInt8) (dict p : Nat) (s : Lzs × Pm En) (js : List Nat) (j : Nat) : foldQ b p0 dict p s (js ++ [j]) = stepQ b p0 dict p (foldQ b p0 dict p s js) j := by
  unfold foldQ
  rw [List.foldl_append]
  rfl
/-- how many there are -/
def manyN (n p : Nat) : Nat := (n + (p - 1)) / p
theorem many_lt {n p j : Nat} (hp : 1 ≤ p) : j < manyN n p ↔ j * p < n := by
  unfold manyN
  rw [Nat.lt_div_iff_mul_lt (by omega)]
  omega
def headB (lc lp pb : Nat) : UInt8 := UInt8.ofNat (45 * pb + 9 * lp + lc)
def packN (b : List UInt8) (lc lp pb dict p : Nat) : List UInt8 := (foldQ b (headB lc lp pb) dict p (freshS lc lp pb dict) (List.range (manyN b.length p))).2.out ++ [0]

/-- what holds behind pieces, whatever their numbers are -/
structure Ckw (b : List UInt8) (lc lp pb dict p k : Nat) (a : Nat × Ckn) : Prop where
  cmd : Cmd b dict (1847 + 768 * 2 ^ (lc + lp)) (min a.1 b.length) a.2.s
  how : a.2.how ≤ 3
  set : a.2.s.1.lc = lc ∧ a.2.s.1.lp = lp ∧ a.2.s.1.pb = pb
  out : a.2.out.length ≤ k * (p + 6)
  at_ : a.1 ≤ k * p
theorem pre_set {how : Nat} {s : Lzs × Pm En} : (preS how s).1.lc = s.1.lc ∧ (preS how s).1.lp = s.1.lp ∧ (preS how s).1.pb = s.1.pb := by
  unfold preS
  split <;> exact ⟨rfl, rfl, rfl⟩
theorem ckw_step {b : List UInt8} {lc lp pb dict p k j : Nat} {a : Nat × Ckn} {p0 : UInt8} (h : Ckw b lc lp pb dict p k a) (hn : b.length ≤ 1000000) : Ckw b lc lp pb dict p (k + 1) (stepQ b p0 dict p a j) := by
  obtain ⟨xs, hxs⟩ : ∃ xs, xs = cutB b p j := ⟨_, rfl⟩
  have hx : xs.length ≤ p := by rw [hxs, cutB_len]; omega
  obtain ⟨hall, hlen, hcmd, hfive, hend, hen, hl9, hlc⟩ := str_all (h.cmd.pre (how := a.2.how)) (T := min (a.1 + xs.length) b.length) (by omega) (by omega) hn _ rfl
  have hset := h.set
  obtain ⟨r1, r2, r3⟩ := pre_set (how := a.2.how) (s := a.2.s)
  have hmul : (k + 1) * (p + 6) = k * (p + 6) + (p + 6) := Nat.succ_mul _ _
  have hmul2 : (k + 1) * p = k * p + p := Nat.succ_mul _ _
  have ho := h.out
  have ha := h.at_
  have hh := h.how
  have hstep : stepQ b p0 dict p a j = (a.1 + xs.length, pieceN b p0 dict a.1 xs a.2) := by rw [hxs]; rfl
  rw [hstep]
  have hs : (strS b dict (min a.1 b.length) (min (a.1 + xs.length) b.length) a.2.how a.2.s) = runL (findS b dict (min a.1 b.length) (min (a.1 + xs.length) b.length) (preS a.2.how a.2.s).1) (preS a.2.how a.2.s) := rfl
  unfold pieceN
  rw [hs]
  generalize runL (findS b dict (min a.1 b.length) (min (a.1 + xs.length) b.length) (preS a.2.how a.2.s).1) (preS a.2.how a.2.s) = s2 at *
  have hset2 : (finS s2).1.lc = lc ∧ (finS s2).1.lp = lp ∧ (finS s2).1.pb = pb := ⟨hlc.1.trans (r1.trans hset.1), hlc.2.1.trans (r2.trans hset.2.1), hlc.2.2.trans (r3.trans hset.2.2)⟩
  have hat : a.1 + xs.length ≤ (k + 1) * p := by omega
  split
  · rename_i hlt
    have hsb : (strB s2).length = s2.2.x.l := beB_len _ _
    refine ⟨hcmd, Nat.zero_le _, hset2, ?_, hat⟩
    show (a.2.out ++ packedB _ _ _ _).length ≤ _
    rw [List.length_append]
    have : (packedB a.2.how p0 xs.length (strB s2)).length ≤ 6 + s2.2.x.l := by
      unfold packedB cntB
      split
      · simp [hsb]; omega
      · simp [hsb]; omega
    omega
  · refine ⟨hcmd, ?_, hset2, ?_, hat⟩
    · show nextH a.2.how ≤ 3
      unfold nextH
      split
      · omega
      · split <;> omega
    · show (a.2.out ++ plainB _ _).length ≤ _
      rw [List.length_append]
      have : (plainB a.2.how xs).length = 3 + xs.length := by
        unfold plainB cntB
        simp
        omega
      omega
theorem ckw_start {b : List UInt8} {lc lp pb dict p : Nat} (h : SetOk lc lp pb dict) : Ckw b lc lp pb dict p 0 (0, ⟨3, freshS lc lp pb dict, []⟩) := by
  have hn := fresh_near h
  have e : min 0 b.length = 0 := by omega
  refine ⟨?_, Nat.le_refl _, ⟨rfl, rfl, rfl⟩, Nat.zero_le _, Nat.zero_le _⟩
  show Cmd b dict (1847 + 768 * 2 ^ (lc + lp)) (min 0 b.length) (freshS lc lp pb dict)
  rw [e]
  have hok := fresh_pm (lc := lc) (lp := lp) (pb := pb) (dict := dict) (m := 0) (Nat.zero_le _)
  exact ⟨⟨rfl, Nat.zero_le _, rfl, rfl, rfl, rfl, rfl, rfl, rfl⟩, ⟨hn.lc, hn.lp, hn.pb, hn.dict, Nat.zero_le _, hn.st, hn.r0, hn.r1, hn.r2, hn.r3, hn.len⟩, hok.ps, hok.len, rfl⟩
theorem ckw_fold {b : List UInt8} {lc lp pb dict p : Nat} {p0 : UInt8} (h : SetOk lc lp pb dict) (hn : b.length ≤ 1000000) (js : List Nat) : Ckw b lc lp pb dict p js.length (foldQ b p0 dict p (freshS lc lp pb dict) js) := by
  have key : ∀ (n : Nat) (js : List Nat), js.length = n → Ckw b lc lp pb dict p n (foldQ b p0 dict p (freshS lc lp pb dict) js) := by
    intro n
    induction n with
    | zero =>
      intro js hj
      obtain rfl := List.eq_nil_of_length_eq_zero hj
      exact ckw_start h
    | succ n ih =>
      intro js hj
      obtain ⟨pre, x, rfl⟩ : ∃ pre x, js = pre ++ [x] := ⟨js.dropLast, js.getLast (by intro e; rw [e] at hj; exact (nomatch hj)), (List.dropLast_concat_getLast _).symm⟩
      rw [foldQ_snoc]
      exact ckw_step (ih pre (by simpa using hj)) hn
  exact key _ js rfl
end Go.Proofs.Ytjganponepafpaa

/-
  What LZMA2's coder puts, piece by piece: numbers; short pieces are plain.
-/
namespace Go.Proofs.Ytjganponepafpaa
open Go.RowKit

/-- a piece's chunk -/
def chunkN (b : List UInt8) (p0 : UInt8) (dict at_ : Nat) (xs : List UInt8) (k : Ckn) : List UInt8 :=
  if (strS b dict (min at_ b.length) (min (at_ + xs.length) b.length) k.how k.s).2.x.l < xs.length then
    packedB k.how p0 xs.length (strB (strS b dict (min at_ b.length) (min (at_ + xs.length) b.length) k.how k.s))
  else plainB k.how xs
theorem piece_out (b : List UInt8) (p0 : UInt8) (dict at_ : Nat) (xs : List UInt8) (k : Ckn) : (pieceN b p0 dict at_ xs k).out = k.out ++ chunkN b p0 dict at_ xs k := by
  unfold pieceN chunkN
  split <;> rfl
section
variable {b : List UInt8} {lc lp pb dict p : Nat} {p0 : UInt8}
theorem str_five {k : Nat} {a : Nat × Ckn} (h : Ckw b lc lp pb dict p k a) (hn : b.length ≤ 1000000) (xs : List UInt8) :
    5 ≤ (strS b dict (min a.1 b.length) (min (a.1 + xs.length) b.length) a.2.how a.2.s).2.x.l :=
  (str_all (h.cmd.pre (how := a.2.how)) (T := min (a.1 + xs.length) b.length) (by omega) (by omega) hn _ rfl).2.2.2.1
theorem piece_short {k : Nat} {a : Nat × Ckn} (h : Ckw b lc lp pb dict p k a) (hn : b.length ≤ 1000000) {xs : List UInt8} (hx : xs.length ≤ 5) :
    (pieceN b p0 dict a.1 xs a.2).how = nextH a.2.how ∧ (pieceN b p0 dict a.1 xs a.2).out = a.2.out ++ plainB a.2.how xs := by
  have := str_five h hn xs
  unfold pieceN
  rw [if_neg (by omega)]
  exact ⟨rfl, rfl⟩
theorem pack_nil : packN [] lc lp pb dict 5 = [0] := rfl
theorem pack_ab : packN [97, 98] 3 0 2 4096 1 = [1, 0, 0, 97, 2, 0, 0, 98, 0] := by
  have hs : SetOk 3 0 2 4096 := ⟨by decide, by decide, by decide, by decide, by decide⟩
  have h0 := ckw_fold (b := [97, 98]) (p := 1) (p0 := headB 3 0 2) hs (by decide) []
  have h1 := ckw_fold (b := [97, 98]) (p := 1) (p0 := headB 3 0 2) hs (by decide) [0]
  obtain ⟨a1, a2⟩ := piece_short (p0 := headB 3 0 2) h0 (by decide) (xs := cutB [97, 98] 1 0) (by decide)
  obtain ⟨b1, b2⟩ := piece_short (p0 := headB 3 0 2) h1 (by decide) (xs := cutB [97, 98] 1 1) (by decide)
  have e0 : foldQ [97, 98] (headB 3 0 2) 4096 1 (freshS 3 0 2 4096) [0] = stepQ [97, 98] (headB 3 0 2) 4096 1 (foldQ [97, 98] (headB 3 0 2) 4096 1 (freshS 3 0 2 4096) []) 0 := rfl
  have f1 : (foldQ [97, 98] (headB 3 0 2) 4096 1 (freshS 3 0 2 4096) [0]).2.out = [1, 0, 0, 97] := by
    rw [e0]
    exact a2
  have f2 : (foldQ [97, 98] (headB 3 0 2) 4096 1 (freshS 3 0 2 4096) [0]).2.how = 2 := by
    rw [e0]
    exact a1
  have f3 : (foldQ [97, 98] (headB 3 0 2) 4096 1 (freshS 3 0 2 4096) [0, 1]).2.out = [1, 0, 0, 97] ++ plainB 2 [98] := by
    have : (foldQ [97, 98] (headB 3 0 2) 4096 1 (freshS 3 0 2 4096) [0, 1]).2.out = (pieceN [97, 98] (headB 3 0 2) 4096 (foldQ [97, 98] (headB 3 0 2) 4096 1 (freshS 3 0 2 4096) [0]).1 (cutB [97, 98] 1 1) (foldQ [97, 98] (headB 3 0 2) 4096 1 (freshS 3 0 2 4096) [0]).2).out := rfl
    rw [this, b2, f1, f2]
    rfl
  show (foldQ [97, 98] (headB 3 0 2) 4096 1 (freshS 3 0 2 4096) [0, 1]).2.out ++ [0] = _
  rw [f3]
  rfl

/-- what was told behind the first j pieces -/
def outN (b : List UInt8) (lc lp pb dict p j : Nat) : List UInt8 := (foldQ b (headB lc lp pb) dict p (freshS lc lp pb dict) (List.range j)).2.out
/-- the chunk of piece number j -/
def chN (b : List UInt8) (lc lp pb dict p j : Nat) : List UInt8 :=
  chunkN b (headB lc lp pb) dict (foldQ b (headB lc lp pb) dict p (freshS lc lp pb dict) (List.range j)).1 (cutB b p j) (foldQ b (headB lc lp pb) dict p (freshS lc lp pb dict) (List.range j)).2
theorem outN_succ (j : Nat) : outN b lc lp pb dict p (j + 1) = outN b lc lp pb dict p j ++ chN b lc lp pb dict p j := by
  unfold outN chN
  rw [List.range_succ, foldQ_snoc]
  exact piece_out _ _ _ _ _ _
theorem outN_pre (j : Nat) : ∀ d, ∃ rest, outN b lc lp pb dict p (j + d) = outN b lc lp pb dict p j ++ rest
  | 0 => ⟨[], by simp⟩
  | d + 1 => by
    obtain ⟨r, h⟩ := outN_pre j d
    exact ⟨r ++ chN b lc lp pb dict p (j + d), by rw [show j + (d + 1) = (j + d) + 1 by omega, outN_succ, h, List.append_assoc]⟩
/-- what a chunk is: its first bytes, its length -/
structure ChIs (ch : List UInt8) (j n : Nat) (k3 k4 : Nat) : Prop where
  count : 256 * (ch.getD 1 0).toNat + (ch.getD 2 0).toNat + 1 = n
  kind : ((ch.getD 0 0).toNat = 1 ∧ j = 0 ∧ ch.length = 3 + n) ∨ ((ch.getD 0 0).toNat = 2 ∧ j ≠ 0 ∧ ch.length = 3 + n) ∨
    (((ch.getD 0 0).toNat = 224 ∧ j = 0 ∧ ch.length = 6 + 256 * k3 + k4 + 1) ∨ ((ch.getD 0 0).toNat = 192 ∧ j ≠ 0 ∧ ch.length = 6 + 256 * k3 + k4 + 1) ∨ (((ch.getD 0 0).toNat = 128 ∨ (ch.getD 0 0).toNat = 160) ∧ j ≠ 0 ∧ ch.length = 5 + 256 * k3 + k4 + 1)) ∧ (ch.getD 3 0).toNat = k3 ∧ (ch.getD 4 0).toNat = k4
end
end Go.Proofs.Ytjganponepafpaa
