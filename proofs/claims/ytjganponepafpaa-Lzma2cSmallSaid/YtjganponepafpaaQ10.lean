/-
  PkBes, CwBes, AppTwo, CwLit: put together.
-/
import Derived.Test.YtjganponepafpaaQ09
import Derived.Test.YtjganponepafpaaQ06
import Derived.Deep.RegionLaw
set_option linter.unusedVariables false
set_option linter.unusedSimpArgs false
/-
  A literal behind a copy: its numbers.
-/
namespace Go.Proofs.Ytjganponepafpaa
open Go.RowKit

theorem and_one (x : Nat) (h : x < 9223372036854775808) : bits .and .i64 (x : Int) 1 = ((x % 2 : Nat) : Int) := by
  show IntKind.i64.wrap ((BitVec.ofInt 64 (x : Int) &&& BitVec.ofInt 64 ((1 : Nat) : Int)).toNat : Int) = _
  rw [BitVec.toNat_and, ofInt_w64 x (by omega), ofInt_w64 1 (by omega), Nat.and_one_is_mod]
  exact IntWalk.i64_in _ (by omega)
theorem bit_shr (v : UInt8) (k : Nat) : bits .and .i64 (wrap64 (v.toNat : Int) / 2 ^ k) 1 = ((bitOf v.toNat k : Nat) : Int) := by
  have hv := v.toNat_lt
  rw [shr_nat v.toNat k (by omega), and_one _ (by have := Nat.div_le_self v.toNat (2 ^ k); omega)]
  rfl
theorem bes_facts {y m idx p1 p2 : Nat} (hy : y ≤ 1) (hm : m < 256) (h1 : p1 = 1 + y) (h2 : p2 = p1 * 256) (hi : idx = p2 + m) :
    IntKind.i64.wrap (1 + (y : Int)) = (p1 : Int) ∧ IntKind.i64.wrap ((p1 : Int) * 256) = (p2 : Int) ∧ IntKind.i64.wrap ((p2 : Int) + (m : Int)) = (idx : Int) ∧ (0 : Int) ≤ (idx : Int) ∧ (idx : Int) < 768 := by
  refine ⟨?_, ?_, ?_, by omega, by omega⟩
  · rw [show 1 + (y : Int) = (p1 : Int) by omega]; exact IntWalk.i64_in _ (by omega)
  · rw [show (p1 : Int) * 256 = (p2 : Int) by omega]; exact IntWalk.i64_in _ (by omega)
  · rw [show (p2 : Int) + (m : Int) = (idx : Int) by omega]; exact IntWalk.i64_in _ (by omega)

theorem lt_256 {m j : Nat} (h : m < 2 ^ (j + 1)) (hj : j < 8) : m < 256 := Nat.lt_of_lt_of_le h (Nat.le_trans (Nat.pow_le_pow_right (by decide) hj) (by decide))
theorem bes_wraps {m b : Nat} (hm : m < 256) (hb : b ≤ 1) : IntKind.i64.wrap (2 * (m : Int)) = 2 * (m : Int) ∧ IntKind.i64.wrap (2 * (m : Int) + (b : Int)) = ((2 * m + b : Nat) : Int) := by
  refine ⟨IntWalk.i64_in _ (by omega), ?_⟩
  rw [show 2 * (m : Int) + (b : Int) = ((2 * m + b : Nat) : Int) by omega]
  exact IntWalk.i64_in _ (by omega)
theorem bes_seven {j : Nat} (hj : j < 8) : IntKind.i64.wrap (7 - (j : Int)) = ((7 - j : Nat) : Int) := by
  rw [show 7 - (j : Int) = ((7 - j : Nat) : Int) by omega]
  exact IntWalk.i64_in _ (by omega)
theorem bes_at {A a idx y m nl p1 p2 : Nat} (hA : A = 1847 + a ∧ a + 768 ≤ nl ∧ nl ≤ 100000000) (hy : y ≤ 1) (hm : m < 256) (h1 : p1 = 1 + y) (h2 : p2 = p1 * 256) (hi : idx = p2 + m) :
    1847 ≤ A + 256 * (1 + y) + m ∧ a + idx = A + 256 * (1 + y) + m - 1847 ∧ A + 256 * (1 + y) + m < 1847 + nl := by omega
theorem bes_at2 {A a m nl : Nat} (hA : A = 1847 + a ∧ a + 768 ≤ nl ∧ nl ≤ 100000000) (hm : m < 256) : 1847 ≤ A + m ∧ a + m = A + m - 1847 ∧ A + m < 1847 + nl := by omega
theorem bes_m {m : Nat} (h : m < 256) : (m : Int) < 256 ∧ (0 : Int) ≤ (m : Int) ∧ (m : Int) < 768 := by omega
end Go.Proofs.Ytjganponepafpaa

/-
  The program's coder of LZMA: a literal behind a copy.
-/
namespace Go.Proofs.Ytjganponepafpaa
open Go.RowKit

theorem lgE_same {A j : Nat} {o v : UInt8} {G : Lg En} (h : G.same = true) : lgStep encM A (want (o.toNat : Int) j) (want (v.toNat : Int) j) G =
    ⟨2 * G.m + bitOf v.toNat j, decide (bitOf v.toNat j = bitOf o.toNat j), (bitP encM G.t (A + 256 * (1 + bitOf o.toNat j) + G.m) ((bitOf v.toNat j : Nat) : Int)).2⟩ := by
  unfold lgStep
  rw [if_pos h, want_nat, want_nat, Int.toNat_natCast]
  rfl
theorem lgE_other {A j : Nat} {o v : UInt8} {G : Lg En} (h : G.same = false) : lgStep encM A (want (o.toNat : Int) j) (want (v.toNat : Int) j) G =
    ⟨2 * G.m + bitOf v.toNat j, false, (bitP encM G.t (A + G.m) ((bitOf v.toNat j : Nat) : Int)).2⟩ := by
  unfold lgStep
  rw [if_neg (by rw [h]; simp), want_nat]
  rfl
theorem bes_eq (b y : Nat) : ((b : Int) == (y : Int)) = decide (b = y) := by
  by_cases h : b = y
  · subst h; simp
  · have : ¬ (b : Int) = (y : Int) := by omega
    simp [h, this]

section
variable {K : Koc} {w w' : World} {Ge Ge' : Option Nat} {A' : Option Addr} {c : Nat} {z : Lzs} {k : Nat} {t : Pm En}

set_option maxRecDepth 100000 in
set_option maxHeartbeats 8000000 in
theorem cbes_any {a cap A : Nat} {x : UInt8} (h : Cw K w Ge A' c z (k + 8) t) (ho : z.out.length ≤ 1000000) (hr0 : z.r0 < 4294967296) (hA : A = 1847 + a) (ha : a + 768 ≤ K.nl) (hnl : K.nl ≤ 100000000) :
    Calls Try.prog 69 #[.pointer (some ⟨K.g, 0, none⟩), .slice (some ⟨K.lb, a, none⟩) 768 cap, .int .u8 (x.toNat : Int)] w (CMid K w Ge (.tuple #[]) A' c z k (litG encM t A (z.back z.r0) x true 8).t) := by
  have c7 := h.f.c7
  have KA := Lib.hid (cat_any h hr0 (by omega))
  have hG := Lib.hid (litG_ok encM_ok (k := k) (a := A) (o := z.back z.r0) (v := x) (same := true) (t := t) (L := 1847 + K.nl) h.mch.ok (by omega))
  obtain ⟨v, hv⟩ : ∃ v : UInt8, v = z.back z.r0 := ⟨_, rfl⟩
  rw [← hv] at KA hG ⊢
  have HZ0 := Lib.hid h
  have HA := Lib.hid (And.intro hA (And.intro ha hnl))
  clear hr0 hv h hA ha hnl ho
  go_enter Try.func69, Try.ntmps69
  go_wp2_with fail
  refine KA.out.mono ?_
  rintro e w1 ⟨rfl, n1, hw1⟩
  have HZ1 := Lib.hid (show Cw K w1 Ge A' c z (k + 8) t by rw [← hw1]; exact HZ0.out.drewN n1)
  have HO1 := Lib.hid (show Only (K.own Ge) w w1 by rw [← hw1]; exact (Only.refl _ w).drewN n1)
  clear c7 KA HZ0 hw1
  go_wp2_with fail
  go_loopw [7, 8, 9, 10, 11, 12, 21] (fun m sm _ _ _ _ i wr => ∃ (j : Nat) (G : Lg En) (G' : Option Nat), j ≤ 8 ∧ G = litG encM t A v x true j ∧ i = .int .i64 (j : Int) ∧ m = .int .i64 (G.m : Int) ∧ sm = .bool G.same ∧ Cw K wr G' A' c z (k + 8 - j) G.t ∧ Nwr w Ge G' ∧ Only (K.own Ge) w wr) (fun _ _ _ _ _ _ i _ => 8 - (intOf i).toNat)
  case atStart => exact ⟨0, _, Ge, by omega, rfl, rfl, rfl, rfl, HZ1.out, Nwr.refl _ _, HO1.out⟩
  case round =>
    clear HZ1 HO1
    obtain ⟨j, G, G', hj, hGj, rfl, rfl, rfl, hz, hn, ho⟩ := hrel
    obtain ⟨t1, t2, t3⟩ := hG.out j hj
    rw [← hGj] at t1 t2 t3
    have HGJ := Lib.hid hGj
    have HO := Lib.hid ho
    have HN := Lib.hid hn
    have HZ := Lib.hid hz
    by_cases hlt : j < 8
    · have hlt' : (j : Int) < 8 := by omega
      have e7 := bes_seven hlt
      have e9 : min (7 - j) 64 = 7 - j := by omega
      have E8 := Lib.hid (bit_shr v (7 - j))
      have E9 := Lib.hid (bit_shr x (7 - j))
      have hm256 := lt_256 t3 hlt
      have hy := bitOf_le v.toNat (7 - j)
      have hb := bitOf_le x.toNat (7 - j)
      have hst2 : lgStep encM A (want (v.toNat : Int) (7 - j)) (want (x.toNat : Int) (7 - j)) G = litG encM t A v x true (j + 1) := by rw [hGj]; rfl
      obtain ⟨y, hyy⟩ : ∃ y, y = bitOf v.toNat (7 - j) := ⟨_, rfl⟩
      obtain ⟨u, huu⟩ : ∃ u, u = bitOf x.toNat (7 - j) := ⟨_, rfl⟩
      rw [← hyy] at E8 hy
      rw [← huu] at E9 hb
      obtain ⟨p1, hp1⟩ : ∃ p1, p1 = 1 + y := ⟨_, rfl⟩
      obtain ⟨p2, hp2⟩ : ∃ p2, p2 = p1 * 256 := ⟨_, rfl⟩
      obtain ⟨idx, hidx⟩ : ∃ idx, idx = p2 + G.m := ⟨_, rfl⟩
      obtain ⟨q1, q2, q3, q4, q5⟩ := bes_facts hy hm256 hp1 hp2 hidx
      have e12 := bes_wraps hm256 hb
      obtain ⟨e1, e2⟩ := e12
      have q3' : IntKind.i64.wrap ((G.m : Int) + (p2 : Int)) = (idx : Int) := by rw [show (G.m : Int) + (p2 : Int) = (p2 : Int) + (G.m : Int) by omega]; exact q3
      have hm := bes_m hm256
      obtain ⟨m1, m2, m3⟩ := hm
      have heq := bes_eq u y
      have HJ := Lib.hid hlt
      have HSZ := Lib.hid ho.size
      cases hsame : G.same with
      | true =>
        have hst := lgE_same (A := A) (j := 7 - j) (o := v) (v := x) hsame
        rw [hst2, ← hyy, ← huu] at hst
        have hat := bes_at HA.out hy hm256 hp1 hp2 hidx
        rw [show k + 8 - j = k + 8 - (j + 1) + 1 by omega] at hz
        have HST := Lib.hid hst
        have KB := Lib.hid (fun (wq : World) (hq : Cw K wq G' A' c z (k + 8 - (j + 1) + 1) G.t) => hq.bit (a := A + 256 * (1 + y) + G.m) (b := K.lb) (i := a + idx) (bit := u) (Koc.ad_lit hat.1 hat.2.1) hat.2.2 hb)
        obtain ⟨B, hB⟩ : ∃ B, B = bitP encM G.t (A + 256 * (1 + y) + G.m) (u : Int) := ⟨_, rfl⟩
        rw [← hB] at KB HST
        have HZ := Lib.hid hz
        clear hst hst2 hidx hp1 hp2 hyy huu hat hsame t1 t2 t3 hm256 hz hn ho hy hb hGj hj hB
        obtain ⟨Gt, hGt⟩ : ∃ Gt, Gt = G.t := ⟨_, rfl⟩
        rw [← hGt] at KB HZ
        generalize G.m = m at *
        clear hGt
        obtain ⟨mm, hmm⟩ : ∃ mm, mm = 2 * m + u := ⟨_, rfl⟩
        rw [← hmm] at e2 HST
        clear hmm
        go_upto_region 5 with fail
        go_quiet (fail)
        rw [E8.out, E9.out]
        clear E8 E9
        have HZ := Lib.hid (HZ.out.drewN nq)
        have HO := Lib.hid (HO.out.drewN nq)
        have HSZ := Lib.hid HO.out.size
        generalize wr.drewN nq = wq at *
        have c4 := HZ.out.f.c4
        have KB := Lib.hid (fun n => KB.out _ (HZ.out.drewN n))
        go_wp2_with fail
        go_region_held3 (fun w' => w'.cell? ⟨K.g, 4, none⟩ = some (.pointer (some ⟨K.eg, 0, none⟩))) (first | assumption | go_keep | exact c4 | exact f4) (first | (go_at_call 64; refine (KB.out _).mono ?_; rintro e w3 ⟨rfl, G3, hz3, hn3, ho3⟩; have f4 := hz3.f.c4; have HZ3 := Lib.hid hz3; have HN3 := Lib.hid (HN.out.trans hn3 HSZ.out); have HO3 := Lib.hid (cset_trans HO.out HN.out (Only.of_drewN ho3)); clear hz3 hn3 ho3))
        clear c4 f4 KB HZ HO HN
        go_wp2_with fail
        go_roundw
        case rel => exact ⟨j + 1, litG encM t A v x true (j + 1), G3, by have := HJ.out; omega, rfl, by go_num, by rw [HST.out], by rw [HST.out], by rw [HST.out]; rw [show k + 8 - (j + 1) = k + 8 - (j + 1) from rfl]; exact HZ3.out, HN3.out, HO3.out⟩
        case measure => simp [intOf]; have := HJ.out; omega
      | false =>
        have hst := lgE_other (A := A) (j := 7 - j) (o := v) (v := x) hsame
        rw [hst2, ← huu] at hst
        have hat := bes_at2 HA.out hm256
        rw [show k + 8 - j = k + 8 - (j + 1) + 1 by omega] at hz
        have HST := Lib.hid hst
        have KB := Lib.hid (fun (wq : World) (hq : Cw K wq G' A' c z (k + 8 - (j + 1) + 1) G.t) => hq.bit (a := A + G.m) (b := K.lb) (i := a + G.m) (bit := u) (Koc.ad_lit hat.1 hat.2.1) hat.2.2 hb)
        obtain ⟨B, hB⟩ : ∃ B, B = bitP encM G.t (A + G.m) (u : Int) := ⟨_, rfl⟩
        rw [← hB] at KB HST
        have HZ := Lib.hid hz
        clear hst hst2 hidx hp1 hp2 hyy huu hat hsame t1 t2 t3 hm256 hz hn ho hy hb hGj hj hB
        obtain ⟨Gt, hGt⟩ : ∃ Gt, Gt = G.t := ⟨_, rfl⟩
        rw [← hGt] at KB HZ
        generalize G.m = m at *
        clear hGt
        obtain ⟨mm, hmm⟩ : ∃ mm, mm = 2 * m + u := ⟨_, rfl⟩
        rw [← hmm] at e2 HST
        clear hmm
        go_upto_region 5 with fail
        go_quiet (fail)
        rw [E8.out, E9.out]
        clear E8 E9
        have HZ := Lib.hid (HZ.out.drewN nq)
        have HO := Lib.hid (HO.out.drewN nq)
        have HSZ := Lib.hid HO.out.size
        generalize wr.drewN nq = wq at *
        have c4 := HZ.out.f.c4
        have KB := Lib.hid (fun n => KB.out _ (HZ.out.drewN n))
        go_wp2_with fail
        go_region_held3 (fun w' => w'.cell? ⟨K.g, 4, none⟩ = some (.pointer (some ⟨K.eg, 0, none⟩))) (first | assumption | go_keep | exact c4 | exact f4) (first | (go_at_call 64; refine (KB.out _).mono ?_; rintro e w3 ⟨rfl, G3, hz3, hn3, ho3⟩; have f4 := hz3.f.c4; have HZ3 := Lib.hid hz3; have HN3 := Lib.hid (HN.out.trans hn3 HSZ.out); have HO3 := Lib.hid (cset_trans HO.out HN.out (Only.of_drewN ho3)); clear hz3 hn3 ho3))
        clear c4 f4 KB HZ HO HN
        go_wp2_with fail
        go_roundw
        case rel => exact ⟨j + 1, litG encM t A v x true (j + 1), G3, by have := HJ.out; omega, rfl, by go_num, by rw [HST.out], by rw [HST.out], by rw [HST.out]; rw [show k + 8 - (j + 1) = k + 8 - (j + 1) from rfl]; exact HZ3.out, HN3.out, HO3.out⟩
        case measure => simp [intOf]; have := HJ.out; omega
    · obtain rfl : j = 8 := by omega
      have hlt' : ¬ ((8 : Nat) : Int) < 8 := by omega
      rw [show k + 8 - 8 = k by omega] at hz
      have HZ2 := Lib.hid hz
      clear hz hn ho t1 t2 t3 hGj HZ
      generalize G.m = m at *
      generalize G.same = sm at *
      go_wp2_with fail
      first | go_end0 | refine bodyPost_ret (results_none rfl _ _ _) rfl ?_
      have := HZ2.out
      rw [HGJ.out] at this
      exact ⟨rfl, G', this, HN.out, HO.out⟩
end
end Go.Proofs.Ytjganponepafpaa

/-
  append, with what is known of the row then.
-/
namespace Go.Proofs.Ytjganponepafpaa
open Go.RowKit

section
variable {P : Program} (w : World)
/-- append, with what is known of the row then -/
theorem wpList_app2 {ops : Array Oper} {rest : List Oper} {o : Oper} {a : Act} {Q : Exit → Act → World → Prop} (hgd : o.guard = none) (s x : Operand) (t : TypeId)
    (ho : o.op = .call { callee := .builtin .append, args := #[s, x], argTypes := #[t, t] })
    (base : Nat) (e : TypeId) (i : TypeInfo) (z : Value) (bytes : Nat) (ht : P.underlying t = some (.slice e)) (hi : P.info? e = some i) (hz : i.zero = some z)
    (hsize : i.size = 1) (hby : i.bytes = bytes) (hzs : z.cells.size = 1)
    (v : Value) (n : Nat) (xs : List Value) (hs : a.eval s = v) (hown : w.ownsRow base e 1 v n xs)
    (A : Option Addr) (m c : Nat) (news : List Value) (hx : a.eval x = .slice A m c) (hr : Sl w A m news) (h1 : ∀ u ∈ news, u.oneCell' = true)
    (hbytes : (n + m) * bytes ≤ 140737488355328) (hb0 : 0 < bytes) (hbase : base ≤ w.heap.size)
    (h : ∀ A' c' w', w'.ownsRow base e 1 (.slice A' (n + m) c') (n + m) (xs ++ news) → w.grownBy w' v.ownBlock → ((Value.slice A' (n + m) c').ownBlock = v.ownBlock ∨ (Value.slice A' (n + m) c').ownBlock = some w.heap.size) → wpList P ops Q rest (a.put o.dst (.slice A' (n + m) c')) w') : wpList P ops Q (o :: rest) a w :=
  wpList_plain hgd fun K hK => by
    obtain ⟨v', w', hrun, h2, h3, h4⟩ := run_app (P := P) w base t o.type e i z bytes ht hi hz hsize hby hzs v n xs hown A m c news hr h1 hbytes hb0 hbase
    obtain ⟨A', c', rfl, h2⟩ := own_form h2
    unfold Oper.wp execOp
    simp only [ho, resolve, invoke, builtin, Sem.run_bind, Sem.run_pure, Result.andThen_ok, List.map_toArray, List.map_cons, List.map_nil, hs, hx, hrun]
    exact hK _ _ (h A' c' w' h2 h3 h4)
end
end Go.Proofs.Ytjganponepafpaa

/-
  The program's coder of LZMA: a literal.
-/
namespace Go.Proofs.Ytjganponepafpaa
open Go.RowKit

/-- by a tree, a literal's bits are as by the two -/
theorem litE_tree {t : Pm En} {A : Nat} {o v : UInt8} : ∀ j, (litG encM t A o v false j).m = (treeG encM t A 8 (v.toNat : Int) j).m ∧ (litG encM t A o v false j).t = (treeG encM t A 8 (v.toNat : Int) j).t ∧ (litG encM t A o v false j).same = false
  | 0 => ⟨rfl, rfl, rfl⟩
  | j + 1 => by
    obtain ⟨h1, h2, h3⟩ := litE_tree (t := t) (A := A) (o := o) (v := v) j
    have e := lgE_other (A := A) (j := 7 - j) (o := o) (v := v) h3
    have e2 : litG encM t A o v false (j + 1) = lgStep encM A (want (o.toNat : Int) (7 - j)) (want (v.toNat : Int) (7 - j)) (litG encM t A o v false j) := rfl
    have e3 : treeG encM t A 8 (v.toNat : Int) (j + 1) = tgStep encM A j (want (v.toNat : Int) (7 - j)) (treeG encM t A 8 (v.toNat : Int) j) := rfl
    rw [e2, e, e3, h1, h2, want_nat]
    exact ⟨rfl, rfl, rfl⟩

section
variable {K : Koc} {w w' : World} {Ge Ge' : Option Nat} {A' : Option Addr} {c : Nat} {z : Lzs} {k : Nat} {t : Pm En}

set_option maxRecDepth 100000 in
set_option maxHeartbeats 8000000 in
/-- The coder codes a literal behind its first bit. -/
theorem clit_any {b : UInt8} {N : Nat} (h : Cw K w Ge A' c z (k + 8) t) (hz : ZNear z (1847 + K.nl) N) (hN : N ≤ 900000) :
    Calls Try.prog 52 #[.pointer (some ⟨K.g, 0, none⟩), .int .u8 (b.toNat : Int)] w (CPut K w Ge (tb A' z.out.length c) (.tuple #[]) (({ z with st := litSt z.st } : Lzs).push b) k (litP encM z t b).2) := by
  have hin := (hz.fine (show N ≤ 1000000 by omega)).small
  have hout : z.out.length ≤ 900000 := Nat.le_trans hz.out hN
  obtain ⟨A, hA⟩ : ∃ A, A = litAt z := ⟨_, rfl⟩
  have hA0 : 1847 ≤ A := by rw [hA]; unfold litAt; exact Nat.le_add_right _ _
  obtain ⟨a, ha⟩ : ∃ a, a = A - 1847 := ⟨_, rfl⟩
  have hAa : A = 1847 + a := by rw [ha]; exact (Nat.add_sub_cancel' hA0).symm
  rw [← hA] at hin
  have hlim : a + 768 ≤ K.nl ∧ K.nl ≤ 100000000 := by
    have h1 := hin.1
    have h2 := hin.2
    clear hin hz h hA hA0 ha
    omega
  have KR := Lib.hid (fun W => prow_any (b := K.lb) (nl := K.nl) (lc := z.lc) (lp := z.lp) (n := z.out.length) (last := (z.back 0).toNat) (a := a) (pb := (z.pb : Int)) (d := (z.dict : Int)) hz.lc hz.lp (by omega) (z.back 0).toNat_lt (by unfold litAt at hA; omega) hlim.1 hlim.2 W)
  have KA := Lib.hid (fun n => show Calls Try.prog 67 #[.pointer (some ⟨K.g, 0, none⟩), .int .u32 0] (w.drewN n) (fun e w' => e = .returned (.int .u8 ((z.back 0).toNat : Int)) ∧ ∃ m, (w.drewN n).drewN m = w') from cat_any (h.drewN n) (d := 0) (by decide) (by omega))
  have HS := Lib.hid (fun (w' : World) (hW : Only (fun _ => False) w w') => show w'.cell? ⟨K.g, 0, none⟩ = some (.int .i64 (z.lc : Int)) ∧ w'.cell? ⟨K.g, 1, none⟩ = some (.int .i64 (z.lp : Int)) ∧ w'.cell? ⟨K.g, 2, none⟩ = some (.int .i64 (z.pb : Int)) ∧ w'.cell? ⟨K.g, 3, none⟩ = some (.int .i64 (z.dict : Int)) ∧ w'.cell? ⟨K.g, 5, none⟩ = some (.slice A' z.out.length c) ∧ w'.cell? ⟨K.g, 1858, none⟩ = some (.slice (some ⟨K.lb, 0, none⟩) K.nl K.nl) from
    have hq := (h.quiet hW).f
    ⟨hq.c0, hq.c1, hq.c2, hq.c3, hq.c5, hq.lits⟩)
  obtain ⟨c0, c1, c2, c3, c5, cl⟩ := HS.out w (Only.refl _ _)
  have HZ0 := Lib.hid h
  have hst11 := hz.st
  obtain ⟨st, hst⟩ : ∃ st, st = z.st := ⟨_, rfl⟩
  rw [← hst] at hst11
  have hdef : (litP encM z t b).2 = (litG encM t A (z.back z.r0) b (decide (7 ≤ st)) 8).t := by rw [hA, hst]; rfl
  rw [hdef]
  have HST := Lib.hid hst
  have KL := Lib.hid (fun w => llit7_any st hst11 w)
  have hr0 := hz.r0
  have hlt := b.toNat_lt
  obtain ⟨i, hi, hz0, hz1, hz2⟩ := info_parts info_u8
  have HOUT := Lib.hid hout
  by_cases h7 : st < 7
  · have hs7 : decide (7 ≤ st) = false := decide_eq_false (by omega)
    have KPA := fun w => papart_any st w
    simp only [hs7] at KPA
    have KPA := Lib.hid KPA
    rw [hs7, (litE_tree (t := t) (A := A) (o := z.back z.r0) (v := b) 8).2.1]
    have KT := Lib.hid (fun (w1 : World) (h1 : Cw K w1 Ge A' c z (k + 8) t) (cap : Nat) => h1.tree (n := 8) (a := A) (b := K.lb) (o := a) (len := 768) (cap := cap) (V := b.toNat) (fun m hm => Koc.ad_lit (by omega) (by omega)) (by show A + 256 ≤ _; have := hin.2; omega) (by decide) (by decide) (by omega))
    unfold treeP at KT
    dsimp only at KT
    generalize (treeG encM t A 8 (b.toNat : Int) 8).t = T at *
    have e8 : IntKind.u32.wrap (b.toNat : Int) = (b.toNat : Int) := u32_of _ (by omega) (by omega)
    clear h7 hs7 hdef hst hst11 hr0 hlim hAa ha hA0 hA hin hz hN hout h hlt
    go_enter Try.func52, Try.ntmps52
    go_wp2_with fail
    go_region_held3 (fun w' => w'.cell? ⟨K.g, 0, none⟩ = some (.int .i64 (z.lc : Int)) ∧ w'.cell? ⟨K.g, 1, none⟩ = some (.int .i64 (z.lp : Int)) ∧ w'.cell? ⟨K.g, 2, none⟩ = some (.int .i64 (z.pb : Int)) ∧ w'.cell? ⟨K.g, 3, none⟩ = some (.int .i64 (z.dict : Int)) ∧ w'.cell? ⟨K.g, 5, none⟩ = some (.slice A' z.out.length c) ∧ w'.cell? ⟨K.g, 1858, none⟩ = some (.slice (some ⟨K.lb, 0, none⟩) K.nl K.nl))
      (first | assumption | go_keep | exact ⟨c0, c1, c2, c3, c5, cl⟩ | exact HS.out _ HQ1.out)
      (first
        | (go_at_call 67; refine (KA.out _).mono ?_; rintro e wa ⟨rfl, na, rfl⟩)
        | (go_at_call 66; refine (KR.out _).mono ?_; rintro e w1 ⟨rfl, hq1⟩; have HQ1 := Lib.hid (show Only (fun _ => False) w w1 from Only.of_drewN hq1); clear hq1))
    have hz1 := HZ0.out.quiet HQ1.out
    have c6 := hz1.f.c6
    rw [← HST.out] at c6
    have c4 := hz1.f.c4
    have HQ1 := Lib.hid HQ1.out
    have KT1 := Lib.hid (KT.out w1 hz1 (K.nl - a))
    clear KT hz1 KR KA HS HZ0 c0 c1 c2 c3 c5 cl
    go_wp2_with fail
    refine (KPA.out _).mono ?_
    rintro e w1' ⟨rfl, rfl⟩
    clear KPA
    go_wp2_with fail
    refine KT1.out.mono ?_
    rintro e w2 ⟨rfl, G2, hz2, hn2, ho2⟩
    have d6 := hz2.f.c6
    rw [← HST.out] at d6
    have x6 := hz2.f.fz 6
    have HZ3 : Hid (Cw K (w2.setCell ⟨K.g, 6, none⟩ (.int .i64 ((litSt st : Nat) : Int))) G2 A' c { z with st := litSt st } k T) := Lib.hid (hz2.put 6 (by decide) (.int .i64 ((litSt st : Nat) : Int)) (z' := { z with st := litSt st }) rfl rfl)
    have HN3 := Lib.hid (show Nwr w Ge G2 from fun i hi => (hn2 i hi).imp id (fun h => Nat.le_trans HQ1.out.size h))
    have HO3 : Hid (Only (K.own Ge) w (w2.setCell ⟨K.g, 6, none⟩ (.int .i64 ((litSt st : Nat) : Int)))) := Lib.hid (((HQ1.out.mono fun _ h => h.elim).trans ho2).cwn_put 6 (.int .i64 ((litSt st : Nat) : Int)))
    clear hz2 hn2 ho2 KT1 c4 c6 HQ1
    go_wp2_with fail
    refine (KL.out _).mono ?_
    rintro e w3 ⟨rfl, rfl⟩
    clear KL
    go_upto_region 5 with fail
    generalize w2.setCell ⟨K.g, 6, none⟩ (.int .i64 ((litSt st : Nat) : Int)) = w4 at *
    clear d6 x6
    have c5 := HZ3.out.f.c5
    have HA1 := Lib.hid (show Only (fun _ => False) w4 (w4.alloc (.cells #[.int .u8 (b.toNat : Int)] 5)) from (Only.refl _ _).alloc _)
    have c5a : (w4.alloc (.cells #[.int .u8 (b.toNat : Int)] 5)).cell? ⟨K.g, 5, none⟩ = some (.slice A' z.out.length c) := (HZ3.out.quiet HA1.out).f.c5
    have HOW := Lib.hid HZ3.out.told
    have hpu := fun (w3 : World) (A2 : Option Addr) (c2 : Nat) => Cw.pushed (w3 := w3) (A2 := A2) (c2 := c2) (x := b) HZ3.out HA1.out
    have HPU := Lib.hid hpu
    clear hpu
    change World.cell? _ _ = some (.slice A' z.out.length c) at c5
    obtain ⟨ln, hln⟩ : ∃ ln, ln = z.out.length := ⟨_, rfl⟩
    have HLN := Lib.hid hln
    rw [← hln] at c5 c5a
    have HL := Lib.hid (show ln ≤ 900000 by rw [hln]; exact HOUT.out)
    have HOW : Hid (w4.ownsRow 0 5 1 (.slice A' ln c) ln (bv z.out)) := Lib.hid (by rw [hln]; exact HOW.out)
    clear hln
    go_wp2_with (at_builtin; refine wpList_app2 _ rfl (.tmp 50) (.tmp 52) 22 rfl 0 5 i _ 1 Try.underlying22 hi hz0 hz1 hz2 rfl _ ln (bv z.out) rfl (HOW.out.alloc _) (some ⟨w4.heap.size, 0, none⟩) 1 1 [.int .u8 (b.toNat : Int)] rfl (sl_one w4 _ _) (one_one _ _) (by have := HL.out; omega) (by omega) (Nat.zero_le _) ?_)
    intro A5 c5' w5 ho5 hg5 hq5
    have HLN2 := HLN.out
    subst HLN2
    obtain ⟨d5, f5, _, hz5, hn5, ho5'⟩ := HPU.out w5 A5 c5' ho5 hg5 (by rw [show (w4.alloc (.cells #[.int .u8 (b.toNat : Int)] 5)).heap.size = w4.heap.size + 1 by simp]; exact hq5)
    have HZ5 := Lib.hid hz5
    have HN5 := Lib.hid (show Nwr w (tb A' z.out.length c) (tb A5 (({ z with st := litSt st } : Lzs).push b).out.length c5') from fun i hi => (hn5 i hi).imp id (fun h => Nat.le_trans HO3.out.size h))
    have HO5 := Lib.hid (show Only (K.all Ge (tb A' z.out.length c)) w (w5.setCell ⟨K.g, 5, none⟩ (.slice A5 (z.out.length + 1) c5')) from (HO3.out.mono (fun i hi => .inl hi)).trans' ho5' (fun i hi => by
      rcases hi with (hi | hi | hi) | hi
      · exact .inl (.inl (.inl hi))
      · rcases HN3.out i hi with e | e
        · exact .inl (.inl (.inr (.inl e)))
        · exact .inr e
      · exact .inl (.inl (.inr (.inr hi)))
      · exact .inl (.inr hi)))
    clear ho5 hg5 hq5 hz5 hn5 ho5' HPU HOW HA1 c5 c5a
    go_wp2_with fail
    first | go_end0 | refine bodyPost_ret (results_none rfl _ _ _) rfl ?_
    have hz6 := HZ5.out
    have hn6 := HN5.out
    rw [HST.out] at hz6 hn6
    exact ⟨rfl, G2, A5, c5', hz6, HN3.out, hn6, HO5.out⟩
  · have hs7 : decide (7 ≤ st) = true := decide_eq_true (by omega)
    have KPA := fun w => papart_any st w
    simp only [hs7] at KPA
    have KPA := Lib.hid KPA
    rw [hs7]
    have KT := Lib.hid (fun (w1 : World) (h1 : Cw K w1 Ge A' c z (k + 8) t) (cap : Nat) => cbes_any (cap := cap) (x := b) h1 (by omega) hr0 hAa hlim.1 hlim.2)
    generalize (litG encM t A (z.back z.r0) b true 8).t = T at *
    clear h7 hs7 hdef hst hst11 hr0 hlim hAa ha hA0 hA hin hz hN hout h hlt
    go_enter Try.func52, Try.ntmps52
    go_wp2_with fail
    go_region_held3 (fun w' => w'.cell? ⟨K.g, 0, none⟩ = some (.int .i64 (z.lc : Int)) ∧ w'.cell? ⟨K.g, 1, none⟩ = some (.int .i64 (z.lp : Int)) ∧ w'.cell? ⟨K.g, 2, none⟩ = some (.int .i64 (z.pb : Int)) ∧ w'.cell? ⟨K.g, 3, none⟩ = some (.int .i64 (z.dict : Int)) ∧ w'.cell? ⟨K.g, 5, none⟩ = some (.slice A' z.out.length c) ∧ w'.cell? ⟨K.g, 1858, none⟩ = some (.slice (some ⟨K.lb, 0, none⟩) K.nl K.nl))
      (first | assumption | go_keep | exact ⟨c0, c1, c2, c3, c5, cl⟩ | exact HS.out _ HQ1.out)
      (first
        | (go_at_call 67; refine (KA.out _).mono ?_; rintro e wa ⟨rfl, na, rfl⟩)
        | (go_at_call 66; refine (KR.out _).mono ?_; rintro e w1 ⟨rfl, hq1⟩; have HQ1 := Lib.hid (show Only (fun _ => False) w w1 from Only.of_drewN hq1); clear hq1))
    have hz1 := HZ0.out.quiet HQ1.out
    have c6 := hz1.f.c6
    rw [← HST.out] at c6
    have c4 := hz1.f.c4
    have HQ1 := Lib.hid HQ1.out
    have KT1 := Lib.hid (KT.out w1 hz1 (K.nl - a))
    clear KT hz1 KR KA HS HZ0 c0 c1 c2 c3 c5 cl
    go_wp2_with fail
    refine (KPA.out _).mono ?_
    rintro e w1' ⟨rfl, rfl⟩
    clear KPA
    go_wp2_with fail
    refine KT1.out.mono ?_
    rintro e w2 ⟨rfl, G2, hz2, hn2, ho2⟩
    have d6 := hz2.f.c6
    rw [← HST.out] at d6
    have x6 := hz2.f.fz 6
    have HZ3 : Hid (Cw K (w2.setCell ⟨K.g, 6, none⟩ (.int .i64 ((litSt st : Nat) : Int))) G2 A' c { z with st := litSt st } k T) := Lib.hid (hz2.put 6 (by decide) (.int .i64 ((litSt st : Nat) : Int)) (z' := { z with st := litSt st }) rfl rfl)
    have HN3 := Lib.hid (show Nwr w Ge G2 from fun i hi => (hn2 i hi).imp id (fun h => Nat.le_trans HQ1.out.size h))
    have HO3 : Hid (Only (K.own Ge) w (w2.setCell ⟨K.g, 6, none⟩ (.int .i64 ((litSt st : Nat) : Int)))) := Lib.hid (((HQ1.out.mono fun _ h => h.elim).trans ho2).cwn_put 6 (.int .i64 ((litSt st : Nat) : Int)))
    clear hz2 hn2 ho2 KT1 c4 c6 HQ1
    go_wp2_with fail
    refine (KL.out _).mono ?_
    rintro e w3 ⟨rfl, rfl⟩
    clear KL
    go_upto_region 5 with fail
    generalize w2.setCell ⟨K.g, 6, none⟩ (.int .i64 ((litSt st : Nat) : Int)) = w4 at *
    clear d6 x6
    have c5 := HZ3.out.f.c5
    have HA1 := Lib.hid (show Only (fun _ => False) w4 (w4.alloc (.cells #[.int .u8 (b.toNat : Int)] 5)) from (Only.refl _ _).alloc _)
    have c5a : (w4.alloc (.cells #[.int .u8 (b.toNat : Int)] 5)).cell? ⟨K.g, 5, none⟩ = some (.slice A' z.out.length c) := (HZ3.out.quiet HA1.out).f.c5
    have HOW := Lib.hid HZ3.out.told
    have hpu := fun (w3 : World) (A2 : Option Addr) (c2 : Nat) => Cw.pushed (w3 := w3) (A2 := A2) (c2 := c2) (x := b) HZ3.out HA1.out
    have HPU := Lib.hid hpu
    clear hpu
    change World.cell? _ _ = some (.slice A' z.out.length c) at c5
    obtain ⟨ln, hln⟩ : ∃ ln, ln = z.out.length := ⟨_, rfl⟩
    have HLN := Lib.hid hln
    rw [← hln] at c5 c5a
    have HL := Lib.hid (show ln ≤ 900000 by rw [hln]; exact HOUT.out)
    have HOW : Hid (w4.ownsRow 0 5 1 (.slice A' ln c) ln (bv z.out)) := Lib.hid (by rw [hln]; exact HOW.out)
    clear hln
    go_wp2_with (at_builtin; refine wpList_app2 _ rfl (.tmp 50) (.tmp 52) 22 rfl 0 5 i _ 1 Try.underlying22 hi hz0 hz1 hz2 rfl _ ln (bv z.out) rfl (HOW.out.alloc _) (some ⟨w4.heap.size, 0, none⟩) 1 1 [.int .u8 (b.toNat : Int)] rfl (sl_one w4 _ _) (one_one _ _) (by have := HL.out; omega) (by omega) (Nat.zero_le _) ?_)
    intro A5 c5' w5 ho5 hg5 hq5
    have HLN2 := HLN.out
    subst HLN2
    obtain ⟨d5, f5, _, hz5, hn5, ho5'⟩ := HPU.out w5 A5 c5' ho5 hg5 (by rw [show (w4.alloc (.cells #[.int .u8 (b.toNat : Int)] 5)).heap.size = w4.heap.size + 1 by simp]; exact hq5)
    have HZ5 := Lib.hid hz5
    have HN5 := Lib.hid (show Nwr w (tb A' z.out.length c) (tb A5 (({ z with st := litSt st } : Lzs).push b).out.length c5') from fun i hi => (hn5 i hi).imp id (fun h => Nat.le_trans HO3.out.size h))
    have HO5 := Lib.hid (show Only (K.all Ge (tb A' z.out.length c)) w (w5.setCell ⟨K.g, 5, none⟩ (.slice A5 (z.out.length + 1) c5')) from (HO3.out.mono (fun i hi => .inl hi)).trans' ho5' (fun i hi => by
      rcases hi with (hi | hi | hi) | hi
      · exact .inl (.inl (.inl hi))
      · rcases HN3.out i hi with e | e
        · exact .inl (.inl (.inr (.inl e)))
        · exact .inr e
      · exact .inl (.inl (.inr (.inr hi)))
      · exact .inl (.inr hi)))
    clear ho5 hg5 hq5 hz5 hn5 ho5' HPU HOW HA1 c5 c5a
    go_wp2_with fail
    first | go_end0 | refine bodyPost_ret (results_none rfl _ _ _) rfl ?_
    have hz6 := HZ5.out
    have hn6 := HN5.out
    rw [HST.out] at hz6 hn6
    exact ⟨rfl, G2, A5, c5', hz6, HN3.out, hn6, HO5.out⟩
end
end Go.Proofs.Ytjganponepafpaa
