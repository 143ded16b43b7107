/-
  PtNum, PtEq, AppO, PtMem, PtRun, ZeroKit, CwZero, RdBegun, RdNew: put together.
-/
import Derived.Test.YtkdmahdhbogmeaaT01
import Derived.Test.YtkdmahdhbogmeaaT15
import Derived.Laws.StructEq
import Derived.Laws.Tables
import Derived.Test.YtkdmahdhbogmeaaT09
import Derived.Test.YtkdmahdhbogmeaaT02
import Derived.Test.YtkdmahdhbogmeaaRows
import Derived.Test.YtkdmahdhbogmeaaT07
import Derived.Laws.MakeOwn
set_option linter.unusedVariables false
set_option linter.unusedSimpArgs false
/-
  What the packets tell that are found: just the bytes.
-/
namespace Go.Proofs.Ytkdmahdhbogmeaa
open Go.RowKit

/-- where the finder stands, and what was told -/
structure Par (b : List UInt8) (dict : Nat) (s : Ps) (z : Lzs) : Prop where
  out : z.out = b.take s.i
  le : s.i ≤ b.length
  r0 : z.r0 = s.r0
  r1 : z.r1 = s.r1
  r2 : z.r2 = s.r2
  r3 : z.r3 = s.r3
  bad : z.bad = false
  ended : z.ended = false
  dict : z.dict = dict

theorem take_push {b : List UInt8} {i : Nat} (h : i < b.length) : b.take i ++ [b.getD i 0] = b.take (i + 1) := by
  rw [List.take_add_one, List.getElem?_eq_getElem h, List.getD_eq_getElem?_getD, List.getElem?_eq_getElem h]
  rfl
theorem copyN_par {b : List UInt8} : ∀ (n i : Nat) (z : Lzs), z.out = b.take i → i + n ≤ b.length → z.r0 < i → z.r0 < z.dict → (∀ j, j < n → b.getD (i + j) 0 = b.getD (i + j - (z.r0 + 1)) 0) →
    (copyN n z).out = b.take (i + n) ∧ (copyN n z).r0 = z.r0 ∧ (copyN n z).r1 = z.r1 ∧ (copyN n z).r2 = z.r2 ∧ (copyN n z).r3 = z.r3
  | 0, i, z, h1, _, _, _, _ => ⟨h1, rfl, rfl, rfl, rfl⟩
  | n + 1, i, z, h1, h2, h3, h4, h5 => by
    have hlen : z.out.length = i := by rw [h1, List.length_take]; omega
    have hhas : z.has z.r0 = true := decide_eq_true ⟨by rw [hlen]; exact h3, h4⟩
    have hb : z.back z.r0 = b.getD i 0 := by
      unfold Lzs.back
      rw [if_pos hhas, hlen, h1]
      have h0 := h5 0 (by omega)
      rw [Nat.add_zero] at h0
      rw [h0, List.getD_eq_getElem?_getD, List.getD_eq_getElem?_getD, List.getElem?_take_of_lt (by omega), show i - 1 - z.r0 = i - (z.r0 + 1) by omega]
    have ho : (z.push (z.back z.r0)).out = b.take (i + 1) := by
      show z.out ++ [_] = _
      rw [hb, h1]
      exact take_push (by omega)
    obtain ⟨a1, a2, a3, a4, a5⟩ := copyN_par n (i + 1) (z.push (z.back z.r0)) ho (by omega) (by show z.r0 < i + 1; omega) h4 (fun j hj => by
      have := h5 (j + 1) (by omega)
      rw [show i + (j + 1) = i + 1 + j by omega] at this
      exact this)
    rw [show i + 1 + n = i + (n + 1) by omega] at a1
    exact ⟨a1, a2, a3, a4, a5⟩
/-- a copy's bytes -/
theorem cp_same {b : List UInt8} {dict e i d n : Nat} (h : cpN b dict e i d = n) (hn : 0 < n) : d < i ∧ d < dict ∧ n ≤ 273 ∧ i + n ≤ e ∧ ∀ j, j < n → b.getD (i + j) 0 = b.getD (i + j - (d + 1)) 0 := by
  have hle := cpN_le b dict e i d
  unfold cpN at h hle
  split at h
  · rename_i hc
    rw [if_pos hc] at hle
    refine ⟨hc.1, hc.2, by omega, by omega, fun j hj => eqN_same b (d + 1) _ i j (by rw [h]; exact hj)⟩
  · omega
theorem rep_is {b : List UInt8} {dict : Nat} {s : Ps} {z : Lzs} (h : Par b dict s z) {k : Nat} (hk : k < 4) : z.rep k = s.rep k := by
  match k, hk with
  | 0, _ => exact h.r0
  | 1, _ => exact h.r1
  | 2, _ => exact h.r2
  | 3, _ => exact h.r3

section
variable {b : List UInt8} {dict e L N k : Nat} {s : Ps} {z : Lzs} {t : Pm En}
theorem Par.len (h : Par b dict s z) : z.out.length = s.i := by
  rw [h.out, List.length_take]
  have := h.le
  omega
theorem has_is (h : Par b dict s z) {d : Nat} (h1 : d < s.i) (h2 : d < dict) : z.has d = true := decide_eq_true ⟨by rw [h.len]; exact h1, by rw [h.dict]; exact h2⟩

theorem par_step (h : Par b dict s z) (hi : s.i < e) (he : e ≤ b.length) (hz : ZNear z L N) (ht : PmOk okE L (k + 27) t) :
    PqLit (stepF b dict e s).1 ∧ fitsP z (stepF b dict e s).1.k (stepF b dict e s).1.v.toNat (stepF b dict e s).1.n = true ∧ Par b dict (stepF b dict e s).2 (packP encM z t (stepF b dict e s).1.pk).2.1 := by
  have hdd : dict < 4294967296 := by rw [← h.dict]; exact hz.dict
  have hend := h.ended
  unfold stepF stepG
  split
  · rename_i hr
    have hlt := eld_lt (b := b) (dict := dict) (e := e) (s := s)
    have hbest : cpN b dict e s.i (s.rep (eldP b dict e s).1) = (eldP b dict e s).2 := (best_is _ _ (show 0 < (eldP b dict e s).2 by have := hr.1; omega)).2.1
    generalize eldP b dict e s = r at *
    obtain ⟨j, n⟩ := r
    dsimp only at *
    obtain ⟨c1, c2, c3, c4, c5⟩ := cp_same hbest (by omega)
    have hrep := rep_is h hlt
    have hhas : z.has (z.rep j) = true := by rw [hrep]; exact has_is h c1 c2
    have hj4 : j = 0 ∨ j = 1 ∨ j = 2 ∨ j = 3 := by omega
    have hfit : fitsP z (2 + (j : Int)) ((0 : Int)).toNat (n : Int) = true := by
      unfold fitsP lateP hasP
      rw [hend, decide_eq_false (by omega)]
      rcases hj4 with rfl | rfl | rfl | rfl
      · exact hhas
      · exact hhas
      · exact hhas
      · exact hhas
    refine ⟨⟨⟨by show _ ≤ 2 + (j : Int); omega, by show 2 + (j : Int) ≤ _; omega⟩, ⟨by show (0 : Int) ≤ 0; omega, by show (0 : Int) ≤ 255; omega⟩, ⟨by show _ ≤ (n : Int); omega, by show (n : Int) ≤ _; omega⟩, ⟨by show (0 : Int) ≤ 0; omega, by show (0 : Int) ≤ _; omega⟩⟩, hfit, ?_⟩
    have hpk : (packP encM z t (⟨2 + (j : Int), 0, (n : Int), 0⟩ : Pq).pk).2.1 = copyN n { z.again j with st := aft 8 11 z.st } := by
      have := packE_again (t := t) (d := 0) (b := 0) h.bad hend (j := j) (n := n) (by omega) hr.1 c3 hhas
      rw [show ((j + 2 : Nat) : Int) = 2 + (j : Int) by omega] at this
      exact congrArg Prod.fst this
    rw [hpk]
    have ho : ({ z.again j with st := aft 8 11 z.st } : Lzs).out = b.take s.i := h.out
    have hr0 : ({ z.again j with st := aft 8 11 z.st } : Lzs).r0 = s.rep j := hrep
    obtain ⟨a1, a2, a3, a4, a5⟩ := copyN_par n s.i ({ z.again j with st := aft 8 11 z.st } : Lzs) ho (by omega) (by rw [hr0]; exact c1) (by rw [hr0]; show _ < z.dict; rw [h.dict]; exact c2) (by rw [hr0]; exact c5)
    obtain ⟨b1, b2, _, _, _, _, b7⟩ := copyN_keep n ({ z.again j with st := aft 8 11 z.st } : Lzs)
    have hi' := Ps.raise_i s n j
    refine ⟨by rw [hi']; exact a1, by rw [hi']; omega, ?_, ?_, ?_, ?_, b1.trans h.bad, b2.trans hend, b7.trans h.dict⟩
    · rw [a2, hr0]
      rcases hj4 with rfl | rfl | rfl | rfl <;> rfl
    · rw [a3]
      rcases hj4 with rfl | rfl | rfl | rfl
      · exact h.r1
      · exact h.r0
      · exact h.r0
      · exact h.r0
    · rw [a4]
      rcases hj4 with rfl | rfl | rfl | rfl
      · exact h.r2
      · exact h.r2
      · exact h.r1
      · exact h.r1
    · rw [a5]
      rcases hj4 with rfl | rfl | rfl | rfl
      · exact h.r3
      · exact h.r3
      · exact h.r3
      · exact h.r2
  · split
    · rename_i hm
      have hp : 0 < lonM b dict e s := by rcases hm with hm | hm <;> omega
      obtain ⟨m2, m3⟩ := lonM_pos hp
      have hl0 : 0 < (lonP b dict e s).2 := by omega
      have hbest : cpN b dict e s.i (lonP b dict e s).1 = (lonP b dict e s).2 := (best_is _ _ hl0).2.1
      rw [m3]
      rw [m3] at m2
      generalize lonP b dict e s = r at *
      obtain ⟨d, n⟩ := r
      dsimp only at *
      obtain ⟨c1, c2, c3, c4, c5⟩ := cp_same hbest hl0
      have hhas : z.has d = true := has_is h c1 c2
      have hfit : fitsP z 1 ((d : Int)).toNat (n : Int) = true := by
        rw [Int.toNat_natCast]
        unfold fitsP lateP hasP
        rw [hend, decide_eq_false (by omega)]
        exact hhas
      refine ⟨⟨⟨by show _ ≤ (1 : Int); omega, by show (1 : Int) ≤ _; omega⟩, ⟨by show (0 : Int) ≤ 0; omega, by show (0 : Int) ≤ 255; omega⟩, ⟨by show _ ≤ (n : Int); omega, by show (n : Int) ≤ _; omega⟩, ⟨by show (0 : Int) ≤ (d : Int); omega, by show (d : Int) ≤ _; omega⟩⟩, hfit, ?_⟩
      have hL0 : 1847 ≤ L := by have := hz.len; omega
      have hs15 : z.out.length % 2 ^ z.pb ≤ 15 := by
        have h1 : z.out.length % 2 ^ z.pb < 2 ^ z.pb := Nat.mod_lt _ (Nat.two_pow_pos _)
        have h2 : 2 ^ z.pb ≤ 2 ^ 4 := pow_le_of hz.pb
        omega
      have hkok := (kindP_ok encM_ok (k := k + 22) (em := decide (z.out.length = 0)) (kd := 1) (t := t) ht hL0 hs15 hz.st (fun _ => by decide)).2
      have hlk := (lenP_ok encM_ok (k := k + 12) (a := 819) (s := z.out.length % 2 ^ z.pb) (v := ((n - 2 : Nat) : Int)) hkok (by omega) (mod_pb hz.pb) (fun _ => by omega)).2
      have hpk : (packP encM z t (⟨1, 0, (n : Int), (d : Int)⟩ : Pq).pk).2.1 = copyN n { z with r0 := d, r1 := z.r0, r2 := z.r1, r3 := z.r2, st := aft 7 10 z.st } :=
        congrArg Prod.fst (packE_match (t := t) (b := 0) h.bad hend m2 c3 hhas hz.dict ⟨k, _, hL0, hlk⟩)
      rw [hpk]
      obtain ⟨a1, a2, a3, a4, a5⟩ := copyN_par n s.i ({ z with r0 := d, r1 := z.r0, r2 := z.r1, r3 := z.r2, st := aft 7 10 z.st } : Lzs) h.out (by omega) c1 (by show _ < z.dict; rw [h.dict]; exact c2) c5
      obtain ⟨b1, b2, _, _, _, _, b7⟩ := copyN_keep n ({ z with r0 := d, r1 := z.r0, r2 := z.r1, r3 := z.r2, st := aft 7 10 z.st } : Lzs)
      exact ⟨a1, by show s.i + n ≤ _; omega, a2, a3.trans h.r0, a4.trans h.r1, a5.trans h.r2, b1.trans h.bad, b2.trans hend, b7.trans h.dict⟩
    · split
      · rename_i hc
        obtain ⟨c1, c2, c3, c4, c5⟩ := cp_same (n := cpN b dict e s.i s.r0) rfl hc
        have hhas : z.has z.r0 = true := by rw [h.r0]; exact has_is h c1 c2
        have hfit : fitsP z 6 ((0 : Int)).toNat 0 = true := by
          unfold fitsP lateP hasP
          rw [hend, decide_eq_false (by omega)]
          exact hhas
        refine ⟨⟨⟨by show _ ≤ (6 : Int); omega, by show (6 : Int) ≤ _; omega⟩, ⟨by show (0 : Int) ≤ 0; omega, by show (0 : Int) ≤ 255; omega⟩, ⟨by show _ ≤ (0 : Int); omega, by show (0 : Int) ≤ _; omega⟩, ⟨by show (0 : Int) ≤ 0; omega, by show (0 : Int) ≤ _; omega⟩⟩, hfit, ?_⟩
        have hpk : (packP encM z t (⟨6, 0, 0, 0⟩ : Pq).pk).2.1 = copyN 1 { z with st := aft 9 11 z.st } := congrArg Prod.fst (packE_single (t := t) (d := 0) (len := 0) (b := 0) h.bad hend hhas)
        rw [hpk]
        obtain ⟨a1, a2, a3, a4, a5⟩ := copyN_par 1 s.i ({ z with st := aft 9 11 z.st } : Lzs) h.out (by omega) (by show z.r0 < _; rw [h.r0]; exact c1) (by show z.r0 < z.dict; rw [h.r0, h.dict]; exact c2) (fun j hj => by show _ = b.getD (s.i + j - (z.r0 + 1)) 0; rw [h.r0]; exact c5 j (by omega))
        obtain ⟨b1, b2, _, _, _, _, b7⟩ := copyN_keep 1 ({ z with st := aft 9 11 z.st } : Lzs)
        exact ⟨a1, by show s.i + 1 ≤ _; omega, a2.trans h.r0, a3.trans h.r1, a4.trans h.r2, a5.trans h.r3, b1.trans h.bad, b2.trans hend, b7.trans h.dict⟩
      · have hb8 := (b.getD s.i 0).toNat_lt
        have hfit : fitsP z 0 ((0 : Int)).toNat 0 = true := lit_fits hend
        refine ⟨⟨⟨by show _ ≤ (0 : Int); omega, by show (0 : Int) ≤ _; omega⟩, ⟨by show (0 : Int) ≤ ((b.getD s.i 0).toNat : Int); omega, by show ((b.getD s.i 0).toNat : Int) ≤ 255; omega⟩, ⟨by show _ ≤ (0 : Int); omega, by show (0 : Int) ≤ _; omega⟩, ⟨by show (0 : Int) ≤ 0; omega, by show (0 : Int) ≤ _; omega⟩⟩, hfit, ?_⟩
        have hpk : (packP encM z t (⟨0, ((b.getD s.i 0).toNat : Int), 0, 0⟩ : Pq).pk).2.1 = ({ z with st := litSt z.st } : Lzs).push (b.getD s.i 0) := by
          have eb : (⟨0, ((b.getD s.i 0).toNat : Int), 0, 0⟩ : Pq).pk = ⟨0, 0, 0, b.getD s.i 0⟩ := by
            show (⟨0, 0, 0, UInt8.ofNat (((b.getD s.i 0).toNat : Int)).toNat⟩ : Pk) = _
            rw [Int.toNat_natCast, UInt8.ofNat_toNat]
          rw [eb]
          exact congrArg Prod.fst (packE_lit (t := t) (d := 0) (len := 0) h.bad)
        rw [hpk]
        refine ⟨?_, by show s.i + 1 ≤ _; omega, h.r0, h.r1, h.r2, h.r3, h.bad, hend, h.dict⟩
        show z.out ++ [_] = b.take (s.i + 1)
        rw [h.out]
        exact take_push (by omega)
end
end Go.Proofs.Ytkdmahdhbogmeaa

/-
  Four numbers are held against themselves.
-/
namespace Go.Proofs.Ytkdmahdhbogmeaa
open Go.RowKit

section
variable {P : Program} (w : World)
theorem run_four_same (t e : TypeId) (ht : P.underlying t = some (.array 4 e)) (he : P.underlying e = some (.int .u32)) (hsz : ∀ w, (sizeOf e).run P w = .ok 1 w) (a b c d : Int) :
    (binOp .eql t (.agg #[.int .u32 a, .int .u32 b, .int .u32 c, .int .u32 d]) (.agg #[.int .u32 a, .int .u32 b, .int .u32 c, .int .u32 d])).run P w = .ok (.bool true) w := by
  rw [run_eql_struct]
  rw [show (10000 : Nat) = 9998 + 2 from rfl, Op.equalIn]
  simp only [Sem.run_bind, run_underlying ht, Result.andThen_ok, hsz, Std.Legacy.Range.forIn_eq_forIn_range', Std.Legacy.Range.size, Nat.sub_zero, Nat.add_sub_cancel, Nat.div_one]
  rw [show List.range' 0 4 1 = [0, 1, 2, 3] from rfl]
  have pe : ∀ x : Int, (Op.equalIn (9998 + 1) e (.int .u32 x) (.int .u32 x)).run P w = .ok true w := fun x => by
    rw [run_equalIn_int w 9998 e .u32 .u32 _ _ he]
    simp
  have pp : ∀ (xs : Array Value) (i : Nat) (v : Value), xs[i]? = some v → (part e xs (i * 1)).run P w = .ok v w := fun xs i v h => by
    simp [part, isAgg, run_underlying he, h]
  have p0 := pp #[.int .u32 a, .int .u32 b, .int .u32 c, .int .u32 d] 0 (.int .u32 a) rfl
  have p1 := pp #[.int .u32 a, .int .u32 b, .int .u32 c, .int .u32 d] 1 (.int .u32 b) rfl
  have p2 := pp #[.int .u32 a, .int .u32 b, .int .u32 c, .int .u32 d] 2 (.int .u32 c) rfl
  have p3 := pp #[.int .u32 a, .int .u32 b, .int .u32 c, .int .u32 d] 3 (.int .u32 d) rfl
  simp only [List.forIn_cons, List.forIn_nil, Sem.run_bind, p0, p1, p2, p3, pe, Result.andThen_ok, Bool.not_true, Bool.false_eq_true, if_false, Sem.run_pure]
end
end Go.Proofs.Ytkdmahdhbogmeaa

/-
  append onto a row of the call's own, which block it is then.
-/
namespace Go.Proofs.Ytkdmahdhbogmeaa
open Go.RowKit

section
variable {P : Program} (w : World)
theorem wpList_appO {ops : Array Oper} {rest : List Oper} {o : Oper} {a : Act} {Q : Exit → Act → World → Prop} (hgd : o.guard = none) (s x : Operand) (t : TypeId)
    (ho : o.op = .call { callee := .builtin .append, args := #[s, x], argTypes := #[t, t] })
    (base : Nat) (e : TypeId) (i : TypeInfo) (z : Value) (bytes : Nat) (ht : P.underlying t = some (.slice e)) (hi : P.info? e = some i) (hz : i.zero = some z)
    (hsize : i.size = 1) (hby : i.bytes = bytes) (hzs : z.cells.size = 1)
    (v : Value) (n : Nat) (xs : List Value) (hs : a.eval s = v) (hown : w.ownsRow base e 1 v n xs)
    (A : Option Addr) (m c : Nat) (news : List Value) (hx : a.eval x = .slice A m c) (hr : Sl w A m news) (h1 : ∀ u ∈ news, u.oneCell' = true)
    (hbytes : (n + m) * bytes ≤ 140737488355328) (hb0 : 0 < bytes) (hbase : base ≤ w.heap.size)
    (h : ∀ A' c' w', w'.ownsRow base e 1 (.slice A' (n + m) c') (n + m) (xs ++ news) → w.grownBy w' v.ownBlock → ((Value.slice A' (n + m) c').ownBlock = v.ownBlock ∨ (Value.slice A' (n + m) c').ownBlock = some w.heap.size) → wpList P ops Q rest (a.put o.dst (.slice A' (n + m) c')) w') : wpList P ops Q (o :: rest) a w :=
  wpList_plain hgd fun K hK => by
    obtain ⟨v', w', hrun, h2, h3, h4⟩ := run_app (P := P) w base t o.type e i z bytes ht hi hz hsize hby hzs v n xs hown A m c news hr h1 hbytes hb0 hbase
    obtain ⟨A', c', rfl, h2⟩ := own_form h2
    unfold Oper.wp execOp
    simp only [ho, resolve, invoke, builtin, Sem.run_bind, Sem.run_pure, Result.andThen_ok, List.map_toArray, List.map_cons, List.map_nil, hs, hx, hrun]
    exact hK _ _ (h A' c' w' h2 h3 h4)
end

end Go.Proofs.Ytkdmahdhbogmeaa

/-
  The coder is given bytes that no packet told; its distances; what it told.
-/
namespace Go.Proofs.Ytkdmahdhbogmeaa
open Go.RowKit

/-- all blocks are B or above -/
structure Young (B : Nat) (K : Koc) (Ge Gt : Option Nat) : Prop where
  g : B ≤ K.g
  l : B ≤ K.lb
  e : B ≤ K.eg
  ge : ∀ i, Ge = some i → B ≤ i
  gt : ∀ i, Gt = some i → B ≤ i
theorem Young.all {B : Nat} {K : Koc} {Ge Gt : Option Nat} (h : Young B K Ge Gt) {i : Nat} (hi : K.all Ge Gt i) : B ≤ i := by
  rcases hi with (e | e | e | e) | e
  · exact e ▸ h.e
  · exact h.ge i e
  · exact e ▸ h.g
  · exact e ▸ h.l
  · exact h.gt i e
theorem Young.step {B : Nat} {K : Koc} {w : World} {Ge Ge' Gt Gt' : Option Nat} (h : Young B K Ge Gt) (h1 : Nwr w Ge Ge') (h2 : Nwr w Gt Gt') (hB : B ≤ w.heap.size) : Young B K Ge' Gt' :=
  ⟨h.g, h.l, h.e, fun i hi => by rcases h1 i hi with e | e; exact h.ge i e; omega, fun i hi => by rcases h2 i hi with e | e; exact h.gt i e; omega⟩

def Lzs.puts (z : Lzs) (xs : List UInt8) : Lzs := { z with out := z.out ++ xs }
section
variable {K : Koc} {w w' : World} {Ge : Option Nat} {A : Option Addr} {c : Nat} {z : Lzs} {k : Nat} {t : Pm En}
/-- More bytes were told, and the cell that leads to them is stored. -/
theorem Cw.puts {w1 w3 : World} {A2 : Option Addr} {c2 : Nat} {xs : List UInt8} (h : Cw K w Ge A c z k t) (h1 : Only (fun _ => False) w w1)
    (ho : w3.ownsRow 0 5 1 (.slice A2 (z.out.length + xs.length) c2) (z.out.length + xs.length) (bv z.out ++ bv xs)) (hg : w1.grownBy w3 (Value.slice A z.out.length c).ownBlock)
    (hq : (Value.slice A2 (z.out.length + xs.length) c2).ownBlock = (Value.slice A z.out.length c).ownBlock ∨ (Value.slice A2 (z.out.length + xs.length) c2).ownBlock = some w1.heap.size) :
    w3.cell? ⟨K.g, 5, none⟩ = some (.slice A z.out.length c) ∧ w3.frozen? ⟨K.g, 5, none⟩ = false ∧ w3.cell? ⟨K.g, 7, none⟩ = some (.int .u32 (z.r0 : Int)) ∧
    Cw K (w3.setCell ⟨K.g, 5, none⟩ (.slice A2 (z.out.length + xs.length) c2)) Ge A2 c2 (z.puts xs) k t ∧ Nwr w (tb A z.out.length c) (tb A2 (z.puts xs).out.length c2) ∧
    Only (K.all Ge (tb A z.out.length c)) w (w3.setCell ⟨K.g, 5, none⟩ (.slice A2 (z.out.length + xs.length) c2)) := by
  obtain ⟨o1, o2, o3, o4, o5⟩ := h.old
  have hs1 := h1.size
  have hta := h.ap.ta
  have hO3 : Only (fun i => tb A z.out.length c = some i) w w3 :=
    (h1.mono (fun _ h => h.elim)).trans ⟨hg.os, hg.tape, hg.output, hg.size, fun i hi hn => hg.block i hi fun e => hn e.symm⟩
  have hq' : ∀ i, tb A2 (z.out.length + xs.length) c2 = some i → tb A z.out.length c = some i ∨ i = w1.heap.size := by
    intro i hi
    rcases hq with e | e
    · exact .inl (e.symm.trans hi)
    · unfold tb at hi; rw [e] at hi; injection hi with hi; exact .inr hi.symm
  have hap : ∀ i, tb A2 (z.out.length + xs.length) c2 = some i → i ≠ K.g ∧ i ≠ K.lb ∧ i ≠ K.eg ∧ Ge ≠ some i := by
    intro i hi
    rcases hq' i hi with e | e
    · exact hta i e
    · refine ⟨by omega, by omega, by omega, fun e2 => ?_⟩
      have := o4 i e2
      omega
  have hOf := (Only.refl (fun j => j = K.g) w3).setCell (p := ⟨K.g, 5, none⟩) (.inl rfl) (.slice A2 (z.out.length + xs.length) c2)
  have hlen : (z.puts xs).out.length = z.out.length + xs.length := by show (z.out ++ xs).length = _; simp
  have hpn := h.mch.pn.only hO3 (fun e => (hta _ e).2.2.1 rfl) (fun i hi e => (hta _ e).2.2.2 hi)
  have hrow := (K.prb _ h.ap.gl).only h.mch.row hO3 (fun i hi e => by rcases hi with rfl | rfl; exact (hta _ e).1 rfl; exact (hta _ e).2.1 rfl)
  refine ⟨hrow.1.cell 5 (by decide), hrow.1.free _, hrow.1.cell 7 (by decide), ⟨⟨hpn.only hOf (fun e => h.ap.ge e.symm) (fun j hj => (h.ap.eo j hj).1), ⟨?_, hrow.2.1.only hOf (fun e => h.ap.gl e.symm), hrow.2.2⟩, h.mch.ok⟩, ?_, ?_⟩, ?_, ?_⟩
  · have := hrow.1.put 5 (by decide) (.slice A2 (z.out.length + xs.length) c2)
    have e : (cwFs K z A c).set 5 (.slice A2 (z.out.length + xs.length) c2) = cwFs K (z.puts xs) A2 c2 := by
      unfold cwFs
      rw [hlen]
      rfl
    rw [e] at this
    exact this
  · rw [hlen]
    have e : bv (z.puts xs).out = bv z.out ++ bv xs := by show bv (z.out ++ xs) = _; rw [bv_append]
    rw [e]
    exact own_only' ho hOf (fun i hi e2 => (hap i hi).1 e2)
  · rw [hlen]
    exact ⟨h.ap.gl, h.ap.ge, h.ap.le, h.ap.eo, hap⟩
  · rw [hlen]
    intro i hi
    rcases hq' i hi with e | e
    · exact .inl e
    · exact .inr (by omega)
  · exact (hO3.mono (fun i hi => .inr hi)).setCell (p := ⟨K.g, 5, none⟩) (.inl (.inl (.inr (.inr (.inl rfl))))) _

set_option maxRecDepth 100000 in
set_option maxHeartbeats 2000000 in
theorem cputs_any {B : Option Addr} {n m : Nat} {xs : List UInt8} (h : Cw K w Ge A c z k t) (hS : Sl w B n (bv xs)) (hn : n ≤ 1000000) (hl : z.out.length ≤ 1000000) :
    Calls Try.prog 11 #[.pointer (some ⟨K.g, 0, none⟩), .slice B n m] w (CPut K w Ge (tb A z.out.length c) (.tuple #[]) (z.puts xs) k t) := by
  obtain ⟨i, hi, hz0, hz1, hz2⟩ := info_parts info_u8
  have hx : xs.length = n := by rw [← bv_length]; exact hS.1
  subst hx
  have c5 := h.f.c5
  have HH := Lib.hid h
  have HS := Lib.hid (And.intro hS (And.intro hn hl))
  clear h hS hn hl
  go_enter Try.func11, Try.ntmps11
  go_wp2_with (first
    | (at_builtin; refine wpList_appO _ rfl _ _ 22 rfl 0 5 i _ 1 Try.underlying22 hi hz0 hz1 hz2 rfl _ z.out.length (bv z.out) rfl HH.out.told _ xs.length _ _ rfl HS.out.1 (bv_one _) ?_ (by decide) (Nat.zero_le _) ?_)
    | fail)
  · have := HS.out.2; omega
  · intro A2 c2 w3 ho hg hv
    obtain ⟨d5, f5, d7, p1, p2, p3⟩ := HH.out.puts (Only.refl _ w) ho hg hv
    have HP := Lib.hid (And.intro p1 (And.intro p2 p3))
    clear ho hg hv p1 p2 p3 d7
    go_wp2_with fail
    first | go_end0 | refine bodyPost_ret (results_none rfl _ _ _) rfl ?_
    exact ⟨rfl, Ge, A2, c2, HP.out.1, Nwr.refl _ _, HP.out.2.1, HP.out.2.2⟩

set_option maxRecDepth 100000 in
set_option maxHeartbeats 2000000 in
/-- the elder distances -/
theorem creps_any (h : Cw K w Ge A c z k t) :
    Calls Try.prog 14 #[.pointer (some ⟨K.g, 0, none⟩)] w fun e w' => e = .returned (.agg #[.int .u32 (z.r0 : Int), .int .u32 (z.r1 : Int), .int .u32 (z.r2 : Int), .int .u32 (z.r3 : Int)]) ∧ Only (fun _ => False) w w' := by
  have hq := h.quiet ((Only.refl (fun _ => False) w).alloc (.cells #[.int .u32 0, .int .u32 0, .int .u32 0, .int .u32 0] 24))
  have c7 := hq.f.c7
  have c8 := hq.f.c8
  have c9 := hq.f.c9
  have c10 := hq.f.c10
  have hB := Blk.fresh w 24 #[.int .u32 (z.r0 : Int), .int .u32 (z.r1 : Int), .int .u32 (z.r2 : Int), .int .u32 (z.r3 : Int)]
  have k0 := hB.cell 0
  have k1 := hB.cell 1
  have k2 := hB.cell 2
  have k3 := hB.cell 3
  have HK := Lib.hid (And.intro k0 (And.intro k1 (And.intro k2 k3)))
  clear h hq hB k0 k1 k2 k3
  go_enter Try.func14, Try.ntmps14
  go_wp2_with fail
  obtain ⟨k0, k1, k2, k3⟩ := HK.out
  refine bodyPost_ret (v := .agg #[.int .u32 (z.r0 : Int), .int .u32 (z.r1 : Int), .int .u32 (z.r2 : Int), .int .u32 (z.r3 : Int)]) (by simp [results, Try.results14, go_sem, k0, k1, k2, k3]) rfl ⟨rfl, (Only.refl _ w).alloc _⟩

set_option maxRecDepth 100000 in
set_option maxHeartbeats 4000000 in
/-- what was told, in a new row -/
theorem ctold2_any (h : Cw K w Ge A c z k t) (hl : z.out.length ≤ 1000000) :
    Calls Try.prog 13 #[.pointer (some ⟨K.g, 0, none⟩)] w fun e w' => ∃ B m, e = .returned (.slice B z.out.length m) ∧ Sl w' B z.out.length (bv z.out) ∧ (∀ q o, B = some ⟨q, o, none⟩ → w.heap.size ≤ q) ∧ Only (fun _ => False) w w' := by
  have KC := Lib.hid (clone_any (A := A) (c := c) (Sl.of_own h.told) (by omega))
  have c5 := h.f.c5
  clear h hl
  go_enter Try.func13, Try.ntmps13
  go_wp2_with fail
  refine KC.out.mono ?_
  rintro e w1 ⟨B, m, rfl, hs, hb⟩
  obtain ⟨f1, _, _, f4⟩ := own_facts hs
  have HS := Lib.hid (And.intro f1 f4)
  have HB := Lib.hid (show Only (fun _ => False) w w1 from Only.of_below hb)
  clear hs hb KC f1 f4
  go_wp2_with fail
  go_ret
  exact ⟨B, m, rfl, HS.out.1, fun q o e => (HS.out.2 q o e).1, HB.out⟩
end
end Go.Proofs.Ytkdmahdhbogmeaa

/-
  The coder goes through the packets that were found.
-/
namespace Go.Proofs.Ytkdmahdhbogmeaa
open Go.RowKit

section
variable {b : List UInt8} {dict e : Nat} {s : Ps}
theorem go_len_is : ∀ n, (goF b dict e s n).2.i < e → (goF b dict e s n).1.length = n
  | 0, _ => rfl
  | n + 1, h => by
    by_cases hl : (goF b dict e s n).2.i < e
    · rw [go_succ hl, List.length_append, go_len_is n hl]
      rfl
    · rw [go_same hl] at h
      exact absurd h hl
theorem go_get : ∀ n h, h < (goF b dict e s n).1.length → (goF b dict e s h).2.i < e ∧ (goF b dict e s n).1[h]? = some (stepF b dict e (goF b dict e s h).2).1 ∧ goF b dict e s (h + 1) = ((goF b dict e s h).1 ++ [(stepF b dict e (goF b dict e s h).2).1], (stepF b dict e (goF b dict e s h).2).2)
  | 0, h, hh => absurd hh (Nat.not_lt_zero h)
  | n + 1, h, hh => by
    by_cases hl : (goF b dict e s n).2.i < e
    · have hlen := go_len_is n hl
      rw [go_succ hl] at hh ⊢
      rw [List.length_append, hlen] at hh
      have hh : h < n + 1 := hh
      by_cases he : h = n
      · subst he
        refine ⟨hl, ?_, go_succ hl⟩
        show ((goF b dict e s h).1 ++ [_])[h]? = _
        rw [List.getElem?_append_right (by omega), hlen, Nat.sub_self]
        rfl
      · obtain ⟨a1, a2, a3⟩ := go_get n h (by omega)
        refine ⟨a1, ?_, a3⟩
        show ((goF b dict e s n).1 ++ [_])[h]? = _
        rw [List.getElem?_append_left (by omega)]
        exact a2
    · rw [go_same hl] at hh ⊢
      exact go_get n h hh
theorem go_full (n : Nat) : goF b dict e s (goF b dict e s n).1.length = goF b dict e s n := by
  induction n with
  | zero => rfl
  | succ n ih =>
    by_cases hl : (goF b dict e s n).2.i < e
    · rw [go_succ hl, List.length_append, go_len_is n hl]
      exact go_succ hl
    · rw [go_same hl]
      exact ih
end

/-- the coder behind so many packets -/
def runT (q : Nat → Pq) (st : Lzs × Pm En) : Nat → Lzs × Pm En
  | 0 => st
  | h + 1 => stepP (runT q st h) (q h).pk
/-- what holds behind each -/
structure Tol (b : List UInt8) (dict L k : Nat) (s : Ps) (st : Lzs × Pm En) : Prop where
  par : Par b dict s st.1
  near : ZNear st.1 L b.length
  ok : PmOk okE L k st.2
theorem near_out {z : Lzs} {L N M : Nat} (h : ZNear z L N) (hM : z.out.length ≤ M) : ZNear z L M := ⟨h.lc, h.lp, h.pb, h.dict, hM, h.st, h.r0, h.r1, h.r2, h.r3, h.len⟩
theorem tol_step {b : List UInt8} {dict e L k : Nat} {s : Ps} {st : Lzs × Pm En} (h : Tol b dict L (k + 27) s st) (hi : s.i < e) (he : e ≤ b.length) :
    PqLit (stepF b dict e s).1 ∧ fitsP st.1 (stepF b dict e s).1.k (stepF b dict e s).1.v.toNat (stepF b dict e s).1.n = true ∧ Tol b dict L k (stepF b dict e s).2 (stepP st (stepF b dict e s).1.pk) := by
  obtain ⟨p1, p2, p3⟩ := par_step h.par hi he h.near h.ok
  obtain ⟨f1, f2, f3⟩ := fits_pk p1 p2
  obtain ⟨n1, n2, _⟩ := packP_near encM_ok (k := k) h.near h.ok f1 f2
  have hst : stepP st (stepF b dict e s).1.pk = (packP encM st.1 st.2 (stepF b dict e s).1.pk).2 := if_pos p2
  rw [hst]
  exact ⟨p1, p2, p3, near_out n1 (by rw [p3.len]; exact p3.le), n2⟩
theorem tol_run {b : List UInt8} {dict e L m k : Nat} {s : Ps} {st : Lzs × Pm En} {q : Nat → Pq} (h0 : Tol b dict L (k + 27 * m) s st) (he : e ≤ b.length) (n : Nat) (hm : (goF b dict e s n).1.length = m) (hq : ∀ h, h < m → q h = (stepF b dict e (goF b dict e s h).2).1) :
    ∀ h, h ≤ m → Tol b dict L (k + 27 * (m - h)) (goF b dict e s h).2 (runT q st h)
  | 0, _ => h0
  | h + 1, hh => by
    have ih := tol_run h0 he n hm hq h (by omega)
    obtain ⟨g1, _, g3⟩ := go_get (b := b) (dict := dict) (e := e) (s := s) n h (by rw [hm]; omega)
    rw [show k + 27 * (m - h) = (k + 27 * (m - (h + 1))) + 27 by omega] at ih
    obtain ⟨_, _, t3⟩ := tol_step ih g1 he
    rw [g3]
    show Tol _ _ _ _ _ (stepP (runT q st h) (q h).pk)
    rw [hq h (by omega)]
    exact t3
/-- a coder that has begun and was given bytes -/
theorem tol_start {b : List UInt8} {lc lp pb dict k i : Nat} (h : SetOk lc lp pb dict) (hi : i ≤ b.length) (hk : k ≤ 1000000) : Tol b dict (probsN lc lp) k ⟨i, 0, 0, 0, 0⟩ ((freshS lc lp pb dict).1.puts (b.take i), (freshS lc lp pb dict).2) := by
  have hl : (b.take i).length ≤ b.length := by rw [List.length_take]; omega
  have hn := fresh_near h
  have hok := fresh_pm (lc := lc) (lp := lp) (pb := pb) (dict := dict) (m := k) hk
  exact ⟨⟨by show [] ++ b.take i = _; rfl, hi, rfl, rfl, rfl, rfl, rfl, rfl, rfl⟩, ⟨hn.lc, hn.lp, hn.pb, hn.dict, by show ([] ++ b.take i).length ≤ _; exact hl, hn.st, hn.r0, hn.r1, hn.r2, hn.r3, hn.len⟩, hok⟩
end Go.Proofs.Ytkdmahdhbogmeaa

/-
  Zeros of great structs, cell by cell.
-/
namespace Go.Proofs.Ytkdmahdhbogmeaa
open Go.RowKit

/-- a type's zero, cell by cell; it is never written out -/
def zOf (P : Program) (t : TypeId) : Array Value := match P.info? t with
  | some i => (match i.zero with | some v => v.cells | none => #[])
  | none => #[]
/-- kinds of zeros -/
def vk : Nat → Value
  | 0 => .int .u16 0
  | 1 => .int .i64 0
  | 2 => .int .u32 0
  | 3 => .nilIface
  | 4 => .pointer none
  | 5 => .slice none 0 0
  | _ => .bool false
def isz (k : Nat) (v : Value) : Bool := match k, v with
  | 0, .int .u16 x => x == 0
  | 1, .int .i64 x => x == 0
  | 2, .int .u32 x => x == 0
  | 3, .nilIface => true
  | 4, .pointer none => true
  | 5, .slice none 0 0 => true
  | 6, .bool false => true
  | _, _ => false
theorem isz_sound (k : Nat) (v : Value) (h : isz k v = true) : v = vk k := by
  unfold isz at h
  split at h
  all_goals first
    | (cases h; done)
    | rfl
    | (have := eq_of_beq h; subst this; rfl)
end Go.Proofs.Ytkdmahdhbogmeaa

/-
  The program's coder of LZMA, as it is built.
-/
namespace Go.Proofs.Ytkdmahdhbogmeaa
open Go.RowKit

def czk (i : Nat) : Nat := if i < 4 then 1 else if i = 4 then 4 else if i = 5 then 5 else if i = 6 then 1 else if i < 11 then 2 else if i < 1858 then 0 else if i = 1858 then 5 else 6
def cchk : Nat → List Value → Bool
  | i, [] => i == 1860
  | i, v :: l => isz (czk i) v && cchk (i + 1) l
theorem cchk_sound : ∀ (l : List Value) (i : Nat), cchk i l = true → i + l.length = 1860 ∧ ∀ j, j < l.length → l[j]? = some (vk (czk (i + j)))
  | [], i, h => ⟨by have := eq_of_beq h; simpa using this, fun j hj => by simp at hj⟩
  | v :: l, i, h => by
    unfold cchk at h
    obtain ⟨h1, h2⟩ := Bool.and_eq_true_iff.1 h
    obtain ⟨g1, g2⟩ := cchk_sound l (i + 1) h2
    refine ⟨by simp only [List.length_cons]; omega, fun j hj => ?_⟩
    cases j with
    | zero => simp [isz_sound _ _ h1]
    | succ j =>
      simp only [List.length_cons] at hj
      rw [List.getElem?_cons_succ, g2 j (by omega)]
      congr 3
      omega
set_option maxRecDepth 1000000 in
theorem czero_chk : cchk 0 (zOf Try.prog 76).toList = true := by kernel_rfl
def madeCo (Z : Array Value) (a b c d : Int) (x : Option Addr) : Array Value :=
  ((((Z.setIfInBounds 0 (.int .i64 a)).setIfInBounds 1 (.int .i64 b)).setIfInBounds 2 (.int .i64 c)).setIfInBounds 3 (.int .i64 d)).setIfInBounds 4 (.pointer x)
theorem czero_size : (zOf Try.prog 76).size = 1860 := by
  have := (cchk_sound _ _ czero_chk).1
  rw [Array.length_toList] at this
  omega
theorem czero_get (i : Nat) (h : i < 1860) : (zOf Try.prog 76)[i]? = some (vk (czk i)) := by
  have := (cchk_sound _ _ czero_chk).2 i (by rw [Array.length_toList, czero_size]; exact h)
  rw [Nat.zero_add, Array.getElem?_toList] at this
  exact this
theorem czero_low (a : Nat) (h : a < 1847) : (zOf Try.prog 76)[11 + a]? = some (.int .u16 0) := by
  rw [czero_get _ (by omega)]
  unfold czk
  rw [if_neg (by omega), if_neg (by omega), if_neg (by omega), if_neg (by omega), if_neg (by omega), if_pos (by omega)]
  rfl
def coPlaces : List (Nat × Nat) := [(0, 4), (4, 1), (5, 1), (6, 1), (7, 4), (11, 1847), (1858, 1), (1859, 1)]
/-- the fields of a coder that was built, and not begun -/
def coFs (a b c d : Int) (eg : Nat) (v : Value) : List Value :=
  [.int .i64 a, .int .i64 b, .int .i64 c, .int .i64 d, .pointer (some ⟨eg, 0, none⟩), .slice none 0 0, .int .i64 0, .int .u32 0, .int .u32 0, .int .u32 0, .int .u32 0, v, .bool false]
theorem made_co {g eg : Nat} {a b c d : Int} {w : World} (hB : Blk w g 76 (madeCo (zOf Try.prog 76) a b c d (some ⟨eg, 0, none⟩))) : LcAt w g (coFs a b c d eg (.slice none 0 0)) (List.replicate 1847 0) := by
  have hs := czero_size
  refine ⟨_, hB, by unfold madeCo; simp [hs], rfl, fun k hk => ?_, fun a ha => ?_⟩
  · unfold madeCo
    match k, hk with
    | 0, _ => exact (by rw [show cfat 0 = 0 from rfl]; simp [hs]; rfl)
    | 1, _ => exact (by rw [show cfat 1 = 1 from rfl]; simp [hs]; rfl)
    | 2, _ => exact (by rw [show cfat 2 = 2 from rfl]; simp [hs]; rfl)
    | 3, _ => exact (by rw [show cfat 3 = 3 from rfl]; simp [hs]; rfl)
    | 4, _ => exact (by rw [show cfat 4 = 4 from rfl]; simp [hs]; rfl)
    | 5, _ => exact (by rw [show cfat 5 = 5 from rfl]; simp [czero_get 5 (by decide)]; rfl)
    | 6, _ => exact (by rw [show cfat 6 = 6 from rfl]; simp [czero_get 6 (by decide)]; rfl)
    | 7, _ => exact (by rw [show cfat 7 = 7 from rfl]; simp [czero_get 7 (by decide)]; rfl)
    | 8, _ => exact (by rw [show cfat 8 = 8 from rfl]; simp [czero_get 8 (by decide)]; rfl)
    | 9, _ => exact (by rw [show cfat 9 = 9 from rfl]; simp [czero_get 9 (by decide)]; rfl)
    | 10, _ => exact (by rw [show cfat 10 = 10 from rfl]; simp [czero_get 10 (by decide)]; rfl)
    | 11, _ => exact (by rw [show cfat 11 = 1858 from rfl]; simp [czero_get 1858 (by decide)]; rfl)
    | 12, _ => exact (by rw [show cfat 12 = 1859 from rfl]; simp [czero_get 1859 (by decide)]; rfl)
    | k + 13, hk => omega
  · have := sg_lt ha
    unfold madeCo
    rw [Array.getElem?_setIfInBounds_ne (by omega), Array.getElem?_setIfInBounds_ne (by omega), Array.getElem?_setIfInBounds_ne (by omega), Array.getElem?_setIfInBounds_ne (by omega), Array.getElem?_setIfInBounds_ne (by omega), czero_low _ this]
    have e : (List.replicate 1847 (0 : Nat)).getD a 0 = 0 := by
      unfold List.getD
      rw [List.getElem?_replicate, if_pos ha]
      rfl
    rw [e]
    rfl

set_option maxRecDepth 1000000 in
theorem czeroCells_chk : cchk 0 Try.zeroCells76.toList = true := by kernel_rfl
theorem czero_link : Try.zeroCells76 = zOf Try.prog 76 := by
  have hs : Try.zeroCells76.size = 1860 := by
    have := (cchk_sound _ _ czeroCells_chk).1
    rw [Array.length_toList] at this
    omega
  have hg : ∀ i, i < 1860 → Try.zeroCells76[i]? = some (vk (czk i)) := by
    intro i h
    have := (cchk_sound _ _ czeroCells_chk).2 i (by rw [Array.length_toList, hs]; exact h)
    rw [Nat.zero_add, Array.getElem?_toList] at this
    exact this
  apply Array.ext_getElem?
  intro i
  by_cases h : i < 1860
  · rw [hg i h, czero_get i h]
  · rw [Array.getElem?_eq_none (by omega), Array.getElem?_eq_none (by rw [czero_size]; omega)]
end Go.Proofs.Ytkdmahdhbogmeaa

/-
  How a decoder of ranges begins, as numbers (cut out of RdNew).
-/
namespace Go.Proofs.Ytkdmahdhbogmeaa

/-- behind the first byte and j more -/
def Begun (bs : List UInt8) (j c : Nat) : Prop := j + 1 ≤ bs.length ∧ (bs.getD 0 0).toNat = 0 ∧ c = be ((bs.drop 1).take j)

theorem info_u16 : (Try.prog.info? 34).map (fun i => (i.zero, i.size, i.bytes)) = some (some (.int .u16 0), 1, 2) := by kernel_rfl
end Go.Proofs.Ytkdmahdhbogmeaa

/-
  Fresh probabilities.
-/
namespace Go.Proofs.Ytkdmahdhbogmeaa
open Go.RowKit

theorem madeNums (n : Nat) : (madeCells #[Value.int .u16 0] n).toList = pv (List.replicate n 0) := by
  rw [toList_madeCells_one]
  simp [pv]

set_option maxRecDepth 100000 in
set_option maxHeartbeats 2000000 in
theorem fresh_any {n : Nat} (hn : n ≤ 1000000) (w : World) :
    Calls Try.prog 35 #[.int .i64 (n : Int)] w fun e w' =>
      e = .returned (.slice (some ⟨w.heap.size, 0, none⟩) n n) ∧ Row w' w.heap.size (List.replicate n 1024) n ∧ Below w.heap.size w w' := by
  obtain ⟨i, hi, hz0, hz1, hz2⟩ := info_parts info_u16
  have h0 : ¬ (n : Int) < 0 := by omega
  have h1 : ¬ (n : Int) > 2147483647 := by omega
  go_enter Try.func35, Try.ntmps35
  go_wp2_with (first
      | (at_make; refine wpList_make_full _ rfl _ _ 74 rfl w.heap.size 34 i _ 1 Try.underlying74 hi hz0 hz1 _ _ _ _ n rfl rfl rfl rfl ?b1 ?b2 (by simp) ?_))
  case b1 => omega
  case b2 => unfold maxLen; omega
  intro w2 ho hg
  rw [madeNums] at ho
  have HO := Lib.hid ho
  have HG := Lib.hid (only_none hg)
  clear ho hg
  go_wp2_with fail
  go_loopw [4, 14] (fun _ k wr => ∃ j : Nat, j ≤ n ∧ k = .int .i64 (j : Int) ∧ wr.ownsRow w.heap.size 34 1 (.slice (some ⟨w.heap.size, 0, none⟩) n n) n (pv (List.replicate j 1024 ++ List.replicate (n - j) 0)) ∧ Below w.heap.size w wr) (fun _ k _ => n - (intOf k).toNat)
  case atStart => exact ⟨0, by omega, rfl, by simpa using HO.out, HG.out⟩
  case round =>
    clear HO HG
    obtain ⟨j, hj, rfl, ho, hb⟩ := hrel
    have HO := Lib.hid ho
    have HG := Lib.hid hb
    clear ho hb
    by_cases hlt : j < n
    · have hfree := HO.out.frozenAt j
      have hl2 : (pv (List.replicate j 1024 ++ List.replicate (n - j) 0)).length = n := by rw [pv_length]; simp; omega
      obtain ⟨old, hold⟩ : ∃ u, wr.cell? ⟨w.heap.size, j, none⟩ = some u := by
        rw [HO.out.cellAt j (by omega), List.getElem?_eq_getElem (by omega)]
        exact ⟨_, rfl⟩
      have i1 : (j : Int) < (n : Int) := by omega
      have i0 : (0 : Int) ≤ (j : Int) := by omega
      have HN := Lib.hid (show (pv (List.replicate j 1024 ++ List.replicate (n - j) 0)).set j (.int .u16 1024) = pv (List.replicate (j + 1) 1024 ++ List.replicate (n - (j + 1)) 0) by
        obtain ⟨m, hm⟩ : ∃ m, n - j = m + 1 := ⟨n - j - 1, by omega⟩
        rw [show n - (j + 1) = m by omega, hm, List.replicate_succ, show (Value.int .u16 1024) = .int .u16 ((1024 : Nat) : Int) from rfl, pv_set, List.set_append_right _ _ (by simp), List.length_replicate, Nat.sub_self, List.set_cons_zero, List.replicate_succ']
        simp)
      clear hl2
      go_wp2_with fail
      go_roundw
      case rel =>
        refine ⟨j + 1, by omega, by go_num, ?_, HG.out.setCell (by simp) _⟩
        have ho := (HO.out.stored j (.int .u16 1024)).1
        rw [HN.out] at ho
        exact ho
      case measure => simp [intOf]; omega
    · obtain rfl : j = n := by omega
      go_wp2_with fail
      go_ret
      refine ⟨rfl, ?_, HG.out⟩
      have ho := HO.out
      rw [Nat.sub_self, List.replicate_zero, List.append_nil] at ho
      unfold Row
      rw [List.length_replicate]
      exact own_mono ho (Nat.zero_le _)
end Go.Proofs.Ytkdmahdhbogmeaa
