/-
  PcFin, B2Mark, AppO, B2CodM: put together.
-/
import Derived.Test.YtdnkoeafnnohnaaY05
import Derived.Test.YtdnkoeafnnohnaaY02
import Derived.Test.YtdnkoeafnnohnaaY03
import Derived.Test.YtdnkoeafnnohnaaY01
import Derived.Test.YtdnkoeafnnohnaaY06
set_option linter.unusedVariables false
set_option linter.unusedSimpArgs false
/-
  The program's coder is finished.
-/
namespace Go.Proofs.Ytdnkoeafnnohnaa
open Go.RowKit

/-- What a finish leaves: the coder's bytes, and a coder that begins. -/
def FinPost (w : World) (g : Nat) (G : Option Nat) (e : En) (x : Ending) (w' : World) : Prop :=
  ∃ A m bs, x = .returned (.slice A bs.length m) ∧ w'.ownsRow 0 5 1 (.slice A bs.length m) bs.length (bv bs) ∧ be bs = e.n ∧ bs.length = e.l ∧ Nwr w G (Value.slice A bs.length m).ownBlock ∧ (Value.slice A bs.length m).ownBlock ≠ some g ∧ Pn w' g none En.new ∧ Only (pset g G) w w'

set_option maxHeartbeats 4000000 in
theorem finish_any {w : World} {g : Nat} {G : Option Nat} {e : En} (h : Pn w g G e) (hlen : e.l ≤ 999999990) :
    Calls Try.prog 26 #[.pointer (some ⟨g, 0, none⟩)] w (FinPost w g G e) := by
  obtain ⟨c, hP, hc⟩ := h
  have HP := Lib.hid hP
  have HC := Lib.hid hc
  have HLEN := Lib.hid hlen
  clear hP hc hlen
  go_enter Try.func26, Try.ntmps26
  go_wp2_with fail
  go_loopw [4] (fun i wr => ∃ (k : Nat) (G' : Option Nat), k ≤ 5 ∧ i = .int .i64 (k : Int) ∧ Pw wr g G' (c.gives k) e.r ∧ Nwr w G G' ∧ Only (pset g G) w wr) (fun i _ => 5 - (intOf i).toNat)
  case atStart => exact ⟨0, G, Nat.zero_le _, rfl, HP.out, Nwr.refl _ _, Only.refl _ _⟩
  case round =>
    clear HP
    obtain ⟨k, G', hk, rfl, hP, hN, hO⟩ := hrel
    have HN := Lib.hid hN
    have HO := Lib.hid hO
    by_cases hlt : k < 5
    · have h5 := (HC.out.mono HC.out.pos (Nat.le_refl 1)).gives k
      have K := Lib.hid (give_any hP h5.wt h5.low (by have h1 := gives_len c k; have h2 := HC.out.len; have h3 := HLEN.out; omega))
      have hlt' : (k : Int) < 5 := by omega
      clear hP hN hO h5
      go_wp2_with fail
      refine K.out.mono ?_
      rintro x w3 ⟨rfl, G2, hP2, hN2, hO2⟩
      have HP2 := Lib.hid hP2
      have HN2 := Lib.hid (HN.out.trans hN2 HO.out.size)
      have HO2 := Lib.hid (pset_trans HO.out HN.out hO2)
      clear hP2 hN2 hO2 HN HO K
      go_wp2_with fail
      go_roundw
      case rel => exact ⟨k + 1, G2, by omega, by go_num, HP2.out, HN2.out, HO2.out⟩
      case measure => simp [intOf]; omega
    · obtain rfl : k = 5 := by omega
      have hirr : ¬ ((5 : Nat) : Int) < 5 := by omega
      obtain ⟨A, m, hB, hOw, hG, hne⟩ := hP
      have c0 : wr.cell? ⟨g, 0, none⟩ = some (.int .u64 ((c.gives 5).lo : Int)) := hB.cell 0
      have c1 : wr.cell? ⟨g, 1, none⟩ = some (.int .u32 (e.r : Int)) := hB.cell 1
      have c2 : wr.cell? ⟨g, 2, none⟩ = some (.slice A (c.gives 5).gs.length m) := hB.cell 2
      have HB := Lib.hid hB
      have HOw := Lib.hid hOw
      have HG := Lib.hid hG
      have HNE := Lib.hid hne
      have K := Lib.hid (cnew_any wr)
      clear hB hOw hG hne hN hO hk hlt
      go_wp2_with fail
      refine K.out.mono ?_
      rintro x w3 ⟨rfl, hw3⟩
      have hO3 : Only (fun _ => False) wr w3 := by rw [hw3]; exact (Only.refl _ wr).alloc _
      have hN3 : Blk w3 wr.heap.size 78 (pcCells 0 4294967295 (.slice none 0 0) 0 0) := by rw [hw3]; exact Blk.fresh wr _ _
      have hB3 : Blk w3 g 78 _ := HB.out.only hO3 (fun h => h)
      obtain ⟨n0, n1, n2, n3, n4⟩ : w3.cell? ⟨wr.heap.size, 0, none⟩ = some (.int .u64 0) ∧ w3.cell? ⟨wr.heap.size, 1, none⟩ = some (.int .u32 4294967295) ∧ w3.cell? ⟨wr.heap.size, 2, none⟩ = some (.slice none 0 0) ∧ w3.cell? ⟨wr.heap.size, 3, none⟩ = some (.int .u8 0) ∧ w3.cell? ⟨wr.heap.size, 4, none⟩ = some (.int .i64 0) := ⟨hN3.cell 0, hN3.cell 1, hN3.cell 2, hN3.cell 3, hN3.cell 4⟩
      obtain ⟨g0, g1, g2, g3, g4⟩ : w3.cell? ⟨g, 0, none⟩ = some (.int .u64 ((c.gives 5).lo : Int)) ∧ w3.cell? ⟨g, 1, none⟩ = some (.int .u32 (e.r : Int)) ∧ w3.cell? ⟨g, 2, none⟩ = some (.slice A (c.gives 5).gs.length m) ∧ w3.cell? ⟨g, 3, none⟩ = some (.int .u8 ((c.gives 5).wt : Int)) ∧ w3.cell? ⟨g, 4, none⟩ = some (.int .i64 ((c.gives 5).fu : Int)) := ⟨hB3.cell 0, hB3.cell 1, hB3.cell 2, hB3.cell 3, hB3.cell 4⟩
      obtain ⟨z0, z1, z2, z3, z4⟩ : w3.frozen? ⟨g, 0, none⟩ = false ∧ w3.frozen? ⟨g, 1, none⟩ = false ∧ w3.frozen? ⟨g, 2, none⟩ = false ∧ w3.frozen? ⟨g, 3, none⟩ = false ∧ w3.frozen? ⟨g, 4, none⟩ = false := ⟨hB3.free 0, hB3.free 1, hB3.free 2, hB3.free 3, hB3.free 4⟩
      have HB3 := Lib.hid hB3
      have HO3 := Lib.hid hO3
      clear hO3 hN3 hB3 hw3 c0 c1 c2 K
      go_wp2_with fail
      first | go_end0 | (go_ret) | refine bodyPost_ret (results_none rfl _ _ _) rfl ?_
      obtain ⟨f1, f2⟩ := HC.out.finish
      have S5 : Only (fun i => i = g) w3 (((((w3.setCell ⟨g, 0, none⟩ (.int .u64 0)).setCell ⟨g, 1, none⟩ (.int .u32 4294967295)).setCell ⟨g, 2, none⟩ (.slice none 0 0)).setCell ⟨g, 3, none⟩ (.int .u8 0)).setCell ⟨g, 4, none⟩ (.int .i64 0)) :=
        (((((Only.refl (fun i => i = g) w3).setCell (p := ⟨g, 0, none⟩) (.inl rfl) _).setCell (p := ⟨g, 1, none⟩) (.inl rfl) _).setCell (p := ⟨g, 2, none⟩) (.inl rfl) _).setCell (p := ⟨g, 3, none⟩) (.inl rfl) _).setCell (p := ⟨g, 4, none⟩) (.inl rfl) _
      have P5 := ((((HB3.out.put 0 (.int .u64 0)).put 1 (.int .u32 4294967295)).put 2 (.slice none 0 0)).put 3 (.int .u8 0)).put 4 (.int .i64 0)
      have hgn : ∀ i, (Value.slice A (c.gives 5).gs.length m).ownBlock = some i → ¬ i = g := fun i hi e => HNE.out (HG.out.symm.trans (e ▸ hi))
      refine ⟨A, m, (c.gives 5).gs, rfl, own_only' (own_only' HOw.out HO3.out (fun _ _ h => h)) S5 hgn, f1, f2, ?_, ?_, ⟨Co.new, ⟨none, 0, P5, ⟨rfl, .inl ⟨rfl, rfl⟩⟩, rfl, by simp⟩, coN_new⟩, ?_⟩
      · rw [HG.out]; exact HN.out
      · rw [HG.out]; exact HNE.out
      · exact (HO.out.trans (HO3.out.mono (fun _ h => h.elim))).trans (S5.mono (fun i hi => .inl hi))
end Go.Proofs.Ytdnkoeafnnohnaa

/-
  Which byte is an instruction, as the program and the document tell it.
-/
namespace Go.Proofs.Ytdnkoeafnnohnaa
open Go.RowKit

theorem u8_and_nat (a b : Nat) (ha : a < 256) (hb : b < 256) : bits .and .u8 (a : Int) (b : Int) = ((a &&& b : Nat) : Int) := by
  have hx : a &&& b ≤ a := Nat.and_le_left
  show IntKind.u8.wrap ((BitVec.ofInt 8 (a : Int) &&& BitVec.ofInt 8 (b : Int)).toNat : Int) = _
  have e1 : (BitVec.ofInt 8 (a : Int)).toNat = a := by simp; omega
  have e2 : (BitVec.ofInt 8 (b : Int)).toNat = b := by simp; omega
  rw [BitVec.toNat_and, e1, e2]
  simp [IntKind.wrap, IntKind.bits, IntKind.signed]
  omega
theorem far_and : ∀ x : Nat, x < 256 → ((x &&& 240 = 128) ↔ (128 ≤ x ∧ x ≤ 143)) := by decide +kernel

/-- how an instruction's number is told -/
def markV (a x : Nat) : Value := .tuple #[.int .i64 (((mark a x).getD 0 : Nat) : Int), .bool (mark a x).isSome]
def markI (a x : Nat) : Int := match mark a x with
  | none => -1
  | some i => (i : Int)

set_option maxHeartbeats 1000000 in
theorem chance_any {a x : Nat} (ha : a < 256) (hx : x < 256) (w : World) :
    Calls Try.prog 38 #[.int .u8 (a : Int), .int .u8 (x : Int)] w fun e w' => e = .returned (markV a x) ∧ w = w' := by
  by_cases h1 : x = 232
  · have hm : markV a x = .tuple #[.int .i64 (a : Int), .bool true] := by unfold markV mark; rw [if_pos h1]; rfl
    rw [hm]
    subst h1
    clear hm
    go_enter Try.func38, Try.ntmps38
    go_wp2_with fail
    go_ret2
    exact ⟨rfl, rfl⟩
  by_cases h2 : x = 233
  · have hm : markV a x = .tuple #[.int .i64 256, .bool true] := by unfold markV mark; rw [if_neg h1, if_pos h2]; rfl
    rw [hm]
    subst h2
    clear hm h1
    go_enter Try.func38, Try.ntmps38
    go_wp2_with fail
    go_ret2
    exact ⟨rfl, rfl⟩
  have g1 : ((x : Int) == 232) = false := by simp; omega
  have g2 : ((x : Int) == 233) = false := by simp; omega
  by_cases h3 : a = 15
  · have e1 : bits .and .u8 (x : Int) 240 = ((x &&& 240 : Nat) : Int) := u8_and_nat x 240 hx (by omega)
    have e2 := far_and x hx
    by_cases h4 : 128 ≤ x ∧ x ≤ 143
    · have hm : markV a x = .tuple #[.int .i64 257, .bool true] := by unfold markV mark; rw [if_neg h1, if_neg h2, if_pos ⟨h3, h4⟩]; rfl
      have e3 : bits .and .u8 (x : Int) 240 = 128 := by rw [e1, e2.2 h4]; rfl
      rw [hm]
      subst h3
      clear hm h1 h2 e1 e2 h4 ha hx
      go_enter Try.func38, Try.ntmps38
      go_wp2_with fail
      go_ret2
      exact ⟨rfl, rfl⟩
    · have hm : markV a x = .tuple #[.int .i64 0, .bool false] := by unfold markV mark; rw [if_neg h1, if_neg h2, if_neg (fun h => h4 h.2)]; rfl
      have h5 : ¬ (x &&& 240) = 128 := fun h => h4 (e2.1 h)
      obtain ⟨y, hy⟩ : ∃ y, y = x &&& 240 := ⟨_, rfl⟩
      rw [← hy] at e1 h5
      have e3 : ((y : Int) == 128) = false := by simp; omega
      rw [hm]
      subst h3
      clear hm h1 h2 e2 h4 ha hx hy h5
      go_enter Try.func38, Try.ntmps38
      go_wp2_with fail
      go_ret2
      exact ⟨rfl, rfl⟩
  · have hm : markV a x = .tuple #[.int .i64 0, .bool false] := by unfold markV mark; rw [if_neg h1, if_neg h2, if_neg (fun h => h3 h.1)]; rfl
    have g3 : ((a : Int) == 15) = false := by simp; omega
    rw [hm]
    clear hm h1 h2 h3 ha hx
    go_enter Try.func38, Try.ntmps38
    go_wp2_with fail
    go_ret2
    exact ⟨rfl, rfl⟩

set_option maxHeartbeats 1000000 in
theorem isCall_any (n : Nat) (w : World) :
    Calls Try.prog 53 #[.int .i64 (n : Int)] w fun e w' => e = .returned (.bool (decide (n < 256))) ∧ w = w' := by
  by_cases h : n < 256
  · have h' : (n : Int) < 256 := by omega
    rw [decide_eq_true h]
    go_enter Try.func53, Try.ntmps53
    go_wp2_with fail
    go_ret
    exact ⟨rfl, rfl⟩
  · have h' : ¬ (n : Int) < 256 := by omega
    rw [decide_eq_false h]
    go_enter Try.func53, Try.ntmps53
    go_wp2_with fail
    go_ret
    exact ⟨rfl, rfl⟩

set_option maxHeartbeats 1000000 in
theorem which_any {a x : Nat} (ha : a < 256) (hx : x < 256) (w : World) :
    Calls Try.prog 21 #[.int .u8 (a : Int), .int .u8 (x : Int)] w fun e w' => e = .returned (.int .i64 (markI a x)) ∧ w = w' := by
  by_cases h1 : x = 232
  · have hm : markI a x = (a : Int) := by unfold markI mark; rw [if_pos h1]
    rw [hm]
    subst h1
    clear hm
    go_enter Try.func21, Try.ntmps21
    go_wp2_with fail
    go_ret
    exact ⟨rfl, rfl⟩
  by_cases h2 : x = 233
  · have hm : markI a x = 256 := by unfold markI mark; rw [if_neg h1, if_pos h2]; rfl
    rw [hm]
    subst h2
    clear hm h1
    go_enter Try.func21, Try.ntmps21
    go_wp2_with fail
    go_ret
    exact ⟨rfl, rfl⟩
  have g1 : ((x : Int) == 232) = false := by simp; omega
  have g2 : ((x : Int) == 233) = false := by simp; omega
  by_cases h3 : a = 15
  · by_cases h4 : 128 ≤ x
    · have k4 : (128 : Int) ≤ (x : Int) := by omega
      by_cases h5 : x ≤ 143
      · have hm : markI a x = 257 := by unfold markI mark; rw [if_neg h1, if_neg h2, if_pos ⟨h3, h4, h5⟩]; rfl
        have k5 : (x : Int) ≤ 143 := by omega
        rw [hm]
        subst h3
        clear hm h1 h2 h4 h5 ha hx
        go_enter Try.func21, Try.ntmps21
        go_wp2_with fail
        go_ret
        exact ⟨rfl, rfl⟩
      · have hm : markI a x = -1 := by unfold markI mark; rw [if_neg h1, if_neg h2, if_neg (fun h => h5 h.2.2)]
        have k5 : ¬ (x : Int) ≤ 143 := by omega
        rw [hm]
        subst h3
        clear hm h1 h2 h4 h5 ha hx
        go_enter Try.func21, Try.ntmps21
        go_wp2_with fail
        go_ret
        exact ⟨rfl, rfl⟩
    · have hm : markI a x = -1 := by unfold markI mark; rw [if_neg h1, if_neg h2, if_neg (fun h => h4 h.2.1)]
      have k4 : ¬ (128 : Int) ≤ (x : Int) := by omega
      rw [hm]
      subst h3
      clear hm h1 h2 h4 ha hx
      go_enter Try.func21, Try.ntmps21
      go_wp2_with fail
      go_ret
      exact ⟨rfl, rfl⟩
  · have hm : markI a x = -1 := by unfold markI mark; rw [if_neg h1, if_neg h2, if_neg (fun h => h3 h.1)]
    have g3 : ((a : Int) == 15) = false := by simp; omega
    rw [hm]
    clear hm h1 h2 h3 ha hx
    go_enter Try.func21, Try.ntmps21
    go_wp2_with fail
    go_ret
    exact ⟨rfl, rfl⟩
end Go.Proofs.Ytdnkoeafnnohnaa

/-
  append onto a row of the call's own, which block it is then.
-/
namespace Go.Proofs.Ytdnkoeafnnohnaa
open Go.RowKit

section
variable {P : Program} (w : World)
theorem wpList_appO {ops : Array Oper} {rest : List Oper} {o : Oper} {a : Act} {Q : Exit → Act → World → Prop} (hgd : o.guard = none) (s x : Operand) (t : TypeId)
    (ho : o.op = .call { callee := .builtin .append, args := #[s, x], argTypes := #[t, t] })
    (base : Nat) (e : TypeId) (i : TypeInfo) (z : Value) (bytes : Nat) (ht : P.underlying t = some (.slice e)) (hi : P.info? e = some i) (hz : i.zero = some z)
    (hsize : i.size = 1) (hby : i.bytes = bytes) (hzs : z.cells.size = 1)
    (v : Value) (n : Nat) (xs : List Value) (hs : a.eval s = v) (hown : w.ownsRow base e 1 v n xs)
    (A : Option Addr) (m c : Nat) (news : List Value) (hx : a.eval x = .slice A m c) (hr : Sl w A m news) (h1 : ∀ u ∈ news, u.oneCell' = true)
    (hbytes : (n + m) * bytes ≤ 140737488355328) (hb0 : 0 < bytes) (hbase : base ≤ w.heap.size)
    (h : ∀ A' c' w', w'.ownsRow base e 1 (.slice A' (n + m) c') (n + m) (xs ++ news) → w.grownBy w' v.ownBlock → ((Value.slice A' (n + m) c').ownBlock = v.ownBlock ∨ (Value.slice A' (n + m) c').ownBlock = some w.heap.size) → wpList P ops Q rest (a.put o.dst (.slice A' (n + m) c')) w') : wpList P ops Q (o :: rest) a w :=
  wpList_plain hgd fun K hK => by
    obtain ⟨v', w', hrun, h2, h3, h4⟩ := run_app (P := P) w base t o.type e i z bytes ht hi hz hsize hby hzs v n xs hown A m c news hr h1 hbytes hb0 hbase
    obtain ⟨A', c', rfl, h2⟩ := own_form h2
    unfold Oper.wp execOp
    simp only [ho, resolve, invoke, builtin, Sem.run_bind, Sem.run_pure, Result.andThen_ok, List.map_toArray, List.map_cons, List.map_nil, hs, hx, hrun]
    exact hK _ _ (h A' c' w' h2 h3 h4)
end

end Go.Proofs.Ytdnkoeafnnohnaa

/-
  The coder of four streams in memory.
-/
namespace Go.Proofs.Ytdnkoeafnnohnaa
open Go.RowKit

/-- the coder's cells -/
def cdc (g : Nat) (ps : List Nat) (V : Nat → Value) (i : Nat) : Value :=
  if i = 0 then .pointer (some ⟨g, 0, none⟩)
  else if i < 259 then .int .u16 ((ps.getD (i - 1) 0 : Nat) : Int)
  else V (i - 259)
def CdB (w : World) (K g : Nat) (V : Nat → Value) (ps : List Nat) : Prop :=
  ps.length = 258 ∧ ∃ cs, Blk w K 56 cs ∧ cs.size = 263 ∧ ∀ i, i < 263 → cs[i]? = some (cdc g ps V i)
def upV (V : Nat → Value) (k : Nat) (v : Value) : Nat → Value := fun i => if i = k then v else V i

section
variable {w w' : World} {K g : Nat} {V : Nat → Value} {ps : List Nat}
theorem CdB.lt (h : CdB w K g V ps) : K < w.heap.size := by obtain ⟨_, _, h, _⟩ := h; exact h.lt
theorem CdB.cell (h : CdB w K g V ps) (i : Nat) (hi : i < 263) : w.cell? ⟨K, i, none⟩ = some (cdc g ps V i) := by
  obtain ⟨_, cs, hB, _, hc⟩ := h
  rw [hB.cell i, hc i hi]
theorem CdB.free (h : CdB w K g V ps) (i : Nat) : w.frozen? ⟨K, i, none⟩ = false := by
  obtain ⟨_, cs, hB, _⟩ := h
  exact hB.free i
theorem CdB.only {T : Nat → Prop} (h : CdB w K g V ps) (hO : Only T w w') (hF : ¬ T K) : CdB w' K g V ps := by
  obtain ⟨h0, cs, hB, hz, hc⟩ := h
  exact ⟨h0, cs, hB.only hO hF, hz, hc⟩
theorem CdB.bits (h : CdB w K g V ps) : w.cell? ⟨K, 0, none⟩ = some (.pointer (some ⟨g, 0, none⟩)) := h.cell 0 (by omega)
theorem CdB.prob (h : CdB w K g V ps) {a : Nat} (ha : a < 258) : w.cell? ⟨K, 1 + a, none⟩ = some (.int .u16 ((ps.getD a 0 : Nat) : Int)) := by
  rw [h.cell (1 + a) (by omega)]; unfold cdc
  rw [if_neg (by omega), if_pos (by omega), show 1 + a - 1 = a by omega]
theorem CdB.out (h : CdB w K g V ps) {k : Nat} (hk : k < 4) : w.cell? ⟨K, 259 + k, none⟩ = some (V k) := by
  rw [h.cell (259 + k) (by omega)]; unfold cdc
  rw [if_neg (by omega), if_neg (by omega), show 259 + k - 259 = k by omega]
theorem CdB.putP (h : CdB w K g V ps) {a : Nat} (ha : a < 258) (q : Nat) : CdB (w.setCell ⟨K, 1 + a, none⟩ (.int .u16 (q : Int))) K g V (ps.set a q) := by
  obtain ⟨h0, cs, hB, hz, hc⟩ := h
  refine ⟨by rw [List.length_set]; exact h0, _, hB.put (1 + a) _, by rw [Array.size_setIfInBounds]; exact hz, fun j hj => ?_⟩
  rw [Array.getElem?_setIfInBounds]
  by_cases e : 1 + a = j
  · subst e
    rw [if_pos rfl, if_pos (by omega)]
    unfold cdc
    rw [if_neg (by omega), if_pos (by omega), show 1 + a - 1 = a by omega]
    simp [List.getD, show a < ps.length by omega]
  · rw [if_neg e, hc j hj]
    unfold cdc
    by_cases h1 : j = 0
    · simp only [if_pos h1]
    · by_cases h2 : j < 259
      · simp only [if_neg h1, if_pos h2]
        simp [List.getD, show a ≠ j - 1 by omega]
      · simp only [if_neg h1, if_neg h2]
theorem CdB.putV (h : CdB w K g V ps) {k : Nat} (hk : k < 4) (v : Value) : CdB (w.setCell ⟨K, 259 + k, none⟩ v) K g (upV V k v) ps := by
  obtain ⟨h0, cs, hB, hz, hc⟩ := h
  refine ⟨h0, _, hB.put (259 + k) _, by rw [Array.size_setIfInBounds]; exact hz, fun j hj => ?_⟩
  rw [Array.getElem?_setIfInBounds]
  by_cases e : 259 + k = j
  · subst e
    rw [if_pos rfl, if_pos (by omega)]
    unfold cdc upV
    rw [if_neg (by omega), if_neg (by omega), if_pos (by omega)]
  · rw [if_neg e, hc j hj]
    unfold cdc upV
    by_cases h1 : j = 0
    · simp only [if_pos h1]
    · by_cases h2 : j < 259
      · simp only [if_neg h1, if_pos h2]
      · simp only [if_neg h1, if_neg h2]
        rw [if_neg (by omega)]
end
theorem cd_prb (K g : Nat) (V : Nat → Value) : Prb (fun w ps => CdB w K g V ps) (fun i => i = K) (fun a => (K, 1 + a)) 258 where
  blk _ := rfl
  cell h ha := h.prob ha
  free h _ := h.free _
  put h ha q := h.putP ha q
  only h hO hS := h.only hO (hS K rfl)
  len h := h.1
  old h hi := by subst hi; exact h.lt

theorem own_onlyC {w w' : World} {S : Nat → Prop} {base : Nat} {e : TypeId} {v : Value} {n : Nat} {xs : List Value} (h : w.ownsRow base e 1 v n xs) (hO : Only S w w') (hS : ∀ b, v.ownBlock = some b → ¬ S b) : w'.ownsRow base e 1 v n xs := by
  refine ⟨h.1, ?_⟩
  rcases h.2 with hn | ⟨g, cap, cur, rfl, hb, hgg, rest⟩
  · exact .inl hn
  · have hlt : g < w.heap.size := (Array.getElem?_eq_some_iff.1 hgg).1
    exact .inr ⟨g, cap, cur, rfl, hb, (hO.block g hlt (hS g rfl)).trans hgg, rest⟩
theorem own_atC {w : World} {base : Nat} {e : TypeId} {v : Value} {n : Nat} {xs : List Value} (h : w.ownsRow base e 1 v n xs) {b : Nat} (hb : v.ownBlock = some b) : base ≤ b ∧ b < w.heap.size := by
  rcases h.2 with ⟨rfl, _⟩ | ⟨g, cap, cur, rfl, h1, h2, _⟩
  · cases hb
  · injection hb with hb
    subst hb
    exact ⟨h1, (Array.getElem?_eq_some_iff.1 h2).1⟩

/-- the coder at block K, its coder of bits at block g (bytes at block G); rows R k of Main, Call and Jump -/
structure Cd (w0 w : World) (K g : Nat) (G : Option Nat) (V : Nat → Value) (R : Nat → List UInt8) (ps : List Nat) (e : En) : Prop where
  blk : CdB w K g V ps
  pn : Pn w g G e
  en : EnOk e
  ps_ok : PsOk ps
  row : ∀ k, k < 3 → w.ownsRow w0.heap.size 5 1 (V k) (R k).length (bv (R k))
  code : V 3 = .slice none 0 0
  bel : Below w0.heap.size w0 w
  low : w0.heap.size ≤ K ∧ w0.heap.size ≤ g ∧ ∀ i, G = some i → w0.heap.size ≤ i
  kg : K ≠ g ∧ G ≠ some K
  off : ∀ k, k < 3 → ∀ q, (V k).ownBlock = some q → q ≠ K ∧ q ≠ g ∧ G ≠ some q ∧ ∀ m, m < 3 → m ≠ k → (V m).ownBlock ≠ some q

section
variable {w0 w w' : World} {K g : Nat} {G : Option Nat} {V : Nat → Value} {R : Nat → List UInt8} {ps : List Nat} {e : En}
theorem Pn.gold (h : Pn w g G e) {i : Nat} (hi : G = some i) : i < w.heap.size := by
  obtain ⟨c, hP, _⟩ := h
  exact hP.old hi
/-- new blocks are made -/
theorem Cd.below (h : Cd w0 w K g G V R ps e) (hb : Below w.heap.size w w') : Cd w0 w' K g G V R ps e :=
  have hO := Only.of_below (S := fun _ => False) hb
  have hpn : Pn w' g G e := by
    obtain ⟨c, hP, hc⟩ := h.pn
    exact ⟨c, hP.only hO (fun h => h) (fun _ _ h => h), hc⟩
  ⟨h.blk.only hO (fun h => h), hpn, h.en, h.ps_ok, fun k hk => own_onlyC (h.row k hk) hO (fun _ _ h => h), h.code, h.bel.trans (hb.mono h.bel.size), h.low, h.kg, h.off⟩
theorem Cd.drewN (h : Cd w0 w K g G V R ps e) (n : Nat) : Cd w0 (w.drewN n) K g G V R ps e :=
  have hO := (Only.refl (fun _ => False) w).drewN n
  have hpn : Pn (w.drewN n) g G e := by
    obtain ⟨c, hP, hc⟩ := h.pn
    exact ⟨c, hP.drewN n, hc⟩
  ⟨h.blk.only hO (fun h => h), hpn, h.en, h.ps_ok, fun k hk => own_onlyC (h.row k hk) hO (fun _ _ h => h), h.code, below_drewN h.bel n, h.low, h.kg, h.off⟩

/-- A row grows, and the cell that leads to it is stored. -/
theorem Cd.app {w1 w3 : World} {k : Nat} {A' : Option Addr} {c' : Nat} {x : List UInt8} (h : Cd w0 w K g G V R ps e) (hk : k < 3) (h1 : Only (fun _ => False) w w1)
    (ho : w3.ownsRow w0.heap.size 5 1 (.slice A' ((R k).length + x.length) c') ((R k).length + x.length) (bv (R k) ++ bv x)) (hg : w1.grownBy w3 (V k).ownBlock)
    (hq : (Value.slice A' ((R k).length + x.length) c').ownBlock = (V k).ownBlock ∨ (Value.slice A' ((R k).length + x.length) c').ownBlock = some w1.heap.size) :
    w3.cell? ⟨K, 259 + k, none⟩ = some (V k) ∧ w3.frozen? ⟨K, 259 + k, none⟩ = false ∧
    Cd w0 (w3.setCell ⟨K, 259 + k, none⟩ (.slice A' ((R k).length + x.length) c')) K g G (upV V k (.slice A' ((R k).length + x.length) c')) (fun i => if i = k then R k ++ x else R i) ps e := by
  have hO : Only (fun i => (V k).ownBlock = some i) w1 w3 := ⟨hg.os, hg.tape, hg.output, hg.size, fun i hi hne => hg.block i hi (fun e => hne e.symm)⟩
  have hO2 := (h1.mono (S' := fun i => (V k).ownBlock = some i) (fun _ h => h.elim)).trans hO
  have hb3 := h.blk.only hO2 (fun e => (h.off k hk K e).1 rfl)
  have hlo : ∀ i, (V k).ownBlock = some i → w0.heap.size ≤ i := fun i hi => (own_atC (h.row k hk) hi).1
  have hb0 := h.bel.trans (hO2.below h.bel.size hlo)
  have hK := h.low.1
  have hs := h1.size
  have hold : ∀ i, (Value.slice A' ((R k).length + x.length) c').ownBlock = some i → (V k).ownBlock = some i ∨ w.heap.size ≤ i := fun i hi => by
    rcases hq with e | e
    · exact .inl (e ▸ hi)
    · rw [e] at hi; injection hi with hi; exact .inr (by omega)
  refine ⟨hb3.out (by omega), hb3.free _, ?_⟩
  have hO4 := (Only.refl (fun i => i = K) w3).setCell (p := ⟨K, 259 + k, none⟩) (.inl rfl) (.slice A' ((R k).length + x.length) c')
  have hpn3 : Pn w3 g G e := by
    obtain ⟨c, hP, hc⟩ := h.pn
    exact ⟨c, hP.only hO2 (fun e => (h.off k hk g e).2.1 rfl) (fun i hi e => (h.off k hk i e).2.2.1 hi), hc⟩
  have hpn : Pn (w3.setCell ⟨K, 259 + k, none⟩ (.slice A' ((R k).length + x.length) c')) g G e := by
    obtain ⟨c, hP, hc⟩ := hpn3
    exact ⟨c, hP.only hO4 (fun e => h.kg.1 e.symm) (fun i hi e => h.kg.2 (e ▸ hi)), hc⟩
  refine ⟨hb3.putV (by omega) _, hpn, h.en, h.ps_ok, fun m hm => ?_, ?_, hb0.trans (hO4.below hb0.size (fun i hi => by omega)), h.low, h.kg, fun m hm q hq' => ?_⟩
  · by_cases e : m = k
    · subst e
      unfold upV
      rw [if_pos rfl, if_pos rfl, bv_append, List.length_append]
      refine own_onlyC ho hO4 (fun b hb hs => ?_)
      rcases hold b hb with h2 | h2
      · exact (h.off m hk b h2).1 hs
      · have := h.blk.lt; omega
    · unfold upV
      rw [if_neg e, if_neg e]
      exact own_onlyC (own_onlyC (h.row m hm) hO2 (fun b hb hs => (h.off m hm b hb).2.2.2 k hk (fun e' => e e'.symm) hs)) hO4 (fun b hb hs => (h.off m hm b hb).1 hs)
  · unfold upV
    rw [if_neg (by omega)]
    exact h.code
  · by_cases e : m = k
    · subst e
      have hq2 : (Value.slice A' ((R m).length + x.length) c').ownBlock = some q := by unfold upV at hq'; rw [if_pos rfl] at hq'; exact hq'
      have hother : ∀ m', m' < 3 → m' ≠ m → (upV V m (.slice A' ((R m).length + x.length) c') m').ownBlock = (V m').ownBlock := fun m' _ hne => by unfold upV; rw [if_neg hne]
      rcases hold q hq2 with h2 | h2
      · obtain ⟨a1, a2, a3, a4⟩ := h.off m hk q h2
        exact ⟨a1, a2, a3, fun m' hm' hne => by rw [hother m' hm' hne]; exact a4 m' hm' hne⟩
      · have b1 := h.blk.lt
        have b2 : g < w.heap.size := by obtain ⟨c, hP, _⟩ := h.pn; exact hP.lt
        refine ⟨by omega, by omega, fun e => by have := h.pn.gold e; omega, fun m' hm' hne hh => ?_⟩
        rw [hother m' hm' hne] at hh
        have := (own_atC (h.row m' hm') hh).2
        omega
    · have hq2 : (V m).ownBlock = some q := by unfold upV at hq'; rw [if_neg e] at hq'; exact hq'
      obtain ⟨a1, a2, a3, a4⟩ := h.off m hm q hq2
      refine ⟨a1, a2, a3, fun m' hm' hne hh => ?_⟩
      by_cases e' : m' = k
      · subst e'
        unfold upV at hh
        rw [if_pos rfl] at hh
        rcases hold q hh with h2 | h2
        · exact a4 m' hm' hne h2
        · have := (own_atC (h.row m hm) hq2).2
          omega
      · unfold upV at hh
        rw [if_neg e'] at hh
        exact a4 m' hm' hne hh

/-- A bit is coded. -/
theorem Cd.bit {k v : Nat} (h : Cd w0 w K g G V R ps e) (hk : k < 258) (hv : v ≤ 1) (hl : e.l ≤ 800000000) :
    Calls Try.prog 41 #[.pointer (some ⟨g, 0, none⟩), .pointer (some ⟨K, 1 + k, none⟩), .int .i64 (v : Int)] w fun x w' =>
      x = .returned (.tuple #[]) ∧ ∃ G', Cd w0 w' K g G' V R (ps.set k (upOf (ps.getD k 0) v)) (e.bit (ps.getD k 0) v) ∧ w.heap.size ≤ w'.heap.size := by
  have hoff : Off g G (fun i => i = K) := fun i hi => hi ▸ ⟨h.kg.1, h.kg.2⟩
  have hM : Cmch (fun w ps => CdB w K g V ps) g G 258 (0 + 1) w ⟨ps, e⟩ := ⟨h.pn, h.blk, ⟨h.ps_ok, h.blk.1, h.en, by show e.l + 32 * 1 ≤ _; omega⟩⟩
  refine (cw_bit (cd_prb K g V) hoff rfl hk hM hv).mono ?_
  rintro x w' ⟨rfl, G', hm, hn, ho⟩
  refine ⟨rfl, G', ?_, ho.size⟩
  have hdef : (bitP encM (⟨ps, e⟩ : Pm En) k (v : Int)).2 = ⟨ps.set k (upOf (ps.getD k 0) v), e.bit (ps.getD k 0) v⟩ := rfl
  rw [hdef] at hm
  have hg' : ∀ i, G' = some i → G = some i ∨ w.heap.size ≤ i := hn
  have hlo' : ∀ i, G' = some i → w0.heap.size ≤ i := fun i hi => by
    rcases hg' i hi with h1 | h1
    · exact h.low.2.2 i h1
    · have := h.bel.size; omega
  have hset : ∀ i, cset g G (fun i => i = K) i → i = g ∨ G = some i ∨ i = K := fun i hi => hi
  refine ⟨hm.row, hm.pn, hm.ok.x.1, hm.ok.ps, fun m hm' => own_onlyC (h.row m hm') ho (fun b hb hs => ?_), h.code, h.bel.trans (ho.below h.bel.size (fun i hi => ?_)), ⟨h.low.1, h.low.2.1, hlo'⟩, ⟨h.kg.1, fun e => ?_⟩, fun m hm' q hq => ?_⟩
  · obtain ⟨a1, a2, a3, _⟩ := h.off m hm' b hb
    rcases hset b hs with h1 | h1 | h1
    · exact a2 h1
    · exact a3 h1
    · exact a1 h1
  · rcases hset i hi with h1 | h1 | h1
    · rw [h1]; exact h.low.2.1
    · exact h.low.2.2 i h1
    · rw [h1]; exact h.low.1
  · rcases hg' K e with h1 | h1
    · exact h.kg.2 h1
    · have := h.blk.lt; omega
  · obtain ⟨a1, a2, a3, a4⟩ := h.off m hm' q hq
    refine ⟨a1, a2, fun e => ?_, a4⟩
    rcases hg' q e with h1 | h1
    · exact a3 h1
    · have := (own_atC (h.row m hm') hq).2
      omega
end
end Go.Proofs.Ytdnkoeafnnohnaa
