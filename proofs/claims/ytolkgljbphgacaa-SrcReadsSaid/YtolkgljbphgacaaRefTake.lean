/-
  The reference's cursor: bytes that are taken, numbers of a size.
-/
import Derived.Test.YtolkgljbphgacaaRefCur
namespace Go.Proofs.Ytolkgljbphgacaa
open Go.RowKit

section
variable {P : Program} (w : World)
theorem step_app {ops : Array Oper} {o : Oper} {a : Act} {K : Act → World → Prop} {Q : Exit → Act → World → Prop} {E : Prop} (hgd : o.guard = none) (s x : Operand) (t : TypeId)
    (ho : o.op = .call { callee := .builtin .append, args := #[s, x], argTypes := #[t, t] })
    (base : Nat) (e : TypeId) (i : TypeInfo) (z : Value) (bytes : Nat) (ht : P.underlying t = some (.slice e)) (hi : P.info? e = some i) (hz : i.zero = some z)
    (hsize : i.size = 1) (hby : i.bytes = bytes) (hzs : z.cells.size = 1)
    (v : Value) (n : Nat) (xs : List Value) (hs : a.eval s = v) (hown : w.ownsRow base e 1 v n xs)
    (A : Option Addr) (m c : Nat) (news : List Value) (hx : a.eval x = .slice A m c) (hr : Sl w A m news) (h1 : ∀ u ∈ news, u.oneCell' = true)
    (hbytes : (n + m) * bytes ≤ 140737488355328) (hb0 : 0 < bytes) (hbase : base ≤ w.heap.size)
    (h : ∀ A' c' w', w'.ownsRow base e 1 (.slice A' (n + m) c') (n + m) (xs ++ news) → w.grownBy w' v.ownBlock → K (a.put o.dst (.slice A' (n + m) c')) w') :
    if Region.wanted o (yielded ops a.tmps) = true then Oper.wp P o a w K Q else E := by
  have hw : Region.wanted o (yielded ops a.tmps) = true := by simp [Region.wanted, hgd]
  rw [if_pos hw]
  obtain ⟨v', w', hrun, h2, h3, _⟩ := run_app (P := P) w base t o.type e i z bytes ht hi hz hsize hby hzs v n xs hown A m c news hr h1 hbytes hb0 hbase
  obtain ⟨A', c', rfl, h2⟩ := own_form h2
  unfold Oper.wp execOp
  simp only [ho, resolve, invoke, builtin, Sem.run_bind, Sem.run_pure, Result.andThen_ok, List.map_toArray, List.map_cons, List.map_nil, hs, hx, hrun]
  exact h A' c' w' h2 h3
end

set_option maxHeartbeats 1000000 in
theorem curTake_none {g : Nat} {lo : Nat → Prop} {bs : List UInt8} {k n : Nat} {code : Int} {w : World} (h : Cur 30 w g lo bs k code) (hm : bs.length ≤ 1000000000) (hn : code ≠ 0 ∨ (leftOf bs k code).length < n) :
    Calls Try.prog 19 #[.pointer (some ⟨g, 0, none⟩), .int .u64 (n : Int)] w fun e w' =>
      e = .returned (.slice none 0 0) ∧ Cur 30 w' g lo bs k (over code 3) ∧ w.grownBy w' (some g) := by
  have hl := left_le h
  have HL := Lib.hid (curLeft_any h)
  have HC := Lib.hid h
  have h2 : w.cell? ⟨g, 2, none⟩ = some (.int .i64 code) := by obtain ⟨A, c, hB, _⟩ := h; exact hB.cell 2
  clear h
  by_cases hz : code = 0
  · generalize leftOf bs k code = r at *
    have hlt : (r.length : Int) < (n : Int) := by omega
    have e1 : IntKind.u64.wrap (r.length : Int) = (r.length : Int) := u64_in _ (by omega)
    subst hz
    clear hn
    go_enter Try.func19, Try.ntmps19
    go_wp2_with fail
    refine HL.out.mono ?_
    rintro e w1 ⟨rfl, d, rfl⟩
    go_wp2_with fail
    refine (curFail_any (HC.out.drewN _)).mono ?_
    rintro e w2 ⟨rfl, hc, hg⟩
    have HC2 := Lib.hid hc
    have HG := Lib.hid hg
    clear hc hg
    go_wp2_with fail
    go_ret
    exact ⟨rfl, HC2.out, only_of_drewN HG.out⟩
  · clear hn
    go_enter Try.func19, Try.ntmps19
    go_wp2_with fail
    refine (curFail_any HC.out).mono ?_
    rintro e w2 ⟨rfl, hc, hg⟩
    have HC2 := Lib.hid hc
    have HG := Lib.hid hg
    clear hc hg
    go_wp2_with fail
    go_ret
    exact ⟨rfl, HC2.out, HG.out⟩

set_option maxHeartbeats 1000000 in
theorem curTake_ok {g : Nat} {lo : Nat → Prop} {bs : List UInt8} {k n : Nat} {w : World} (h : Cur 30 w g lo bs k 0) (hm : bs.length ≤ 1000000000) (hn : n ≤ (leftOf bs k 0).length) :
    Calls Try.prog 19 #[.pointer (some ⟨g, 0, none⟩), .int .u64 (n : Int)] w fun e w' =>
      ∃ A' c', e = .returned (.slice A' n c') ∧ w'.ownsRow w.heap.size 5 1 (.slice A' n c') n (bv ((leftOf bs k 0).take n)) ∧ Cur 30 w' g lo bs (k + n) 0 ∧ w.grownBy w' (some g) := by
  obtain ⟨i, hi, hz0, hz1, hz2⟩ := info_parts info_u8
  have HL := Lib.hid (curLeft_any h)
  have hlt := h.lt
  have hle : leftOf bs k 0 = bs.drop k := by simp [leftOf]
  have hll : (leftOf bs k 0).length = bs.length - k := by rw [hle, List.length_drop]
  obtain ⟨A, c, hB, hS, r1, r2, r3, r4⟩ := h
  have hcut := (hS.cut r3 r1).first (k := n) (by omega)
  rw [← bv_drop, ← bv_take, ← hle] at hcut
  generalize leftOf bs k 0 = r at *
  have hln : ¬ (r.length : Int) < (n : Int) := by omega
  have hkn : k + n ≤ bs.length := by omega
  have e1 : IntKind.u64.wrap (r.length : Int) = (r.length : Int) := u64_in _ (by omega)
  have h2 : w.cell? ⟨g, 2, none⟩ = some (.int .i64 0) := hB.cell 2
  have h1 : w.cell? ⟨g, 1, none⟩ = some (.int .i64 (k : Int)) := hB.cell 1
  have h0 : w.cell? ⟨g, 0, none⟩ = some (.slice A bs.length c) := hB.cell 0
  have HB := Lib.hid hB
  have HS := Lib.hid hS
  have HR4 := Lib.hid r4
  have HCUT := Lib.hid hcut
  have hmx := r2
  unfold maxLen at hmx
  clear hB hS r4 hcut hle hll
  have f1 : IntKind.i64.wrap ((k : Int) + (n : Int)) = (k : Int) + (n : Int) := IntWalk.i64_in _ (by omega)
  have f2 : IntKind.i64.wrap (n : Int) = (n : Int) := IntWalk.i64_in _ (by omega)
  have f3 : (0 : Int) ≤ (k : Int) := by omega
  have f4 : (k : Int) ≤ (k : Int) + (n : Int) := by omega
  have f5 : (k : Int) + (n : Int) ≤ (c : Int) := by omega
  go_enter Try.func19, Try.ntmps19
  go_wp2_with fail
  refine HL.out.mono ?_
  rintro e w1 ⟨rfl, d, rfl⟩
  go_wp2_with fail
  by_cases hck : c = k
  · have hck2 := hck.symm
    subst hck2
    have hn0 : n ≤ 0 := by omega
    have f6 : (n : Int) ≤ 0 := by omega
    clear hck
    have HCUT2 : Hid (Sl w A 0 (bv (r.take n))) := by
      have := HCUT.out
      rw [if_pos rfl] at this
      rwa [show n = 0 by omega] at this ⊢
    go_region_held3 (fun w' => w'.cell? ⟨g, 0, none⟩ = some (.slice A bs.length k) ∧ w'.cell? ⟨g, 1, none⟩ = some (.int .i64 (k : Int)))
      (first | exact ⟨h0, h1⟩ | exact ⟨by assumption, by assumption⟩ | go_keep)
      (first | (refine step_app _ rfl (.tmp 20) (.tmp 36) 22 rfl w.heap.size 5 i _ 1 Try.underlying22 hi hz0 hz1 hz2 rfl (.slice (some ⟨w.heap.size, 0, none⟩) 0 0) 0 [] rfl (own_empty _ (Nat.le_refl _) _) _ _ _ (bv (r.take n)) rfl (HCUT2.out.alloc _) (bv_one _) (by omega) (by omega) (by simp) ?_; intro A1 c1 w2 ho hg; have hb := ((below_drewN (Below.refl w.heap.size w) (d + 1)).alloc (Nat.le_refl _) _).grown hg (by simp) (fun k e => by simp [Value.ownBlock] at e; omega); have j0 : w2.cell? ⟨g, 0, none⟩ = some (.slice A bs.length k) := (hb.cell hlt).trans h0; have j1 : w2.cell? ⟨g, 1, none⟩ = some (.int .i64 (k : Int)) := (hb.cell hlt).trans h1; have HO := Lib.hid ho; have HBW := Lib.hid hb; clear ho hg hb))
    have jf : w2.frozen? ⟨g, 1, none⟩ = false := (HB.out.below HBW.out).free 1
    go_wp2
    go_ret
    have HB2 := HB.out.below HBW.out
    have ho := HO.out
    rw [show 0 + 0 = n by omega] at ho
    refine ⟨A1, c1, congrArg (fun m => Ending.returned (.slice A1 m c1)) (show 0 = n by omega), ?_, ⟨A, k, ?_, ?_, r1, r2, by omega, HR4.out⟩, ?_⟩
    · exact ownsRow_setCell_below ho hlt _
    · have := HB2.put 1 (.int .i64 ((k : Int) + (n : Int)))
      rw [← Int.natCast_add] at this
      simpa [curCells] using this
    · refine (HS.out.below HBW.out).grown (only_setCell (World.grownBy.refl w2 _) (.inl rfl) _) (fun hn b o e => (HR4.out hn b o e).2)
    · exact only_setCell (only_of_below HBW.out _) (.inl rfl) _
  · have hck2 : ¬ (c : Int) = (k : Int) := by omega
    have HCUT2 : Hid (Sl w (A.map fun x => x.add k) (((k : Int) + (n : Int)).toNat - k) (bv (r.take n))) := by
      have := HCUT.out
      rw [if_neg hck] at this
      rwa [show ((k : Int) + (n : Int)).toNat - k = n by omega]
    go_region_held3 (fun w' => w'.cell? ⟨g, 0, none⟩ = some (.slice A bs.length c) ∧ w'.cell? ⟨g, 1, none⟩ = some (.int .i64 (k : Int)))
      (first | exact ⟨h0, h1⟩ | exact ⟨by assumption, by assumption⟩ | go_keep)
      (first | (refine step_app _ rfl (.tmp 20) (.tmp 36) 22 rfl w.heap.size 5 i _ 1 Try.underlying22 hi hz0 hz1 hz2 rfl (.slice (some ⟨w.heap.size, 0, none⟩) 0 0) 0 [] rfl (own_empty _ (Nat.le_refl _) _) _ _ _ (bv (r.take n)) rfl (HCUT2.out.alloc _) (bv_one _) (by omega) (by omega) (by simp) ?_; intro A1 c1 w2 ho hg; have hb := ((below_drewN (Below.refl w.heap.size w) (d + 1)).alloc (Nat.le_refl _) _).grown hg (by simp) (fun k e => by simp [Value.ownBlock] at e; omega); have j0 : w2.cell? ⟨g, 0, none⟩ = some (.slice A bs.length c) := (hb.cell hlt).trans h0; have j1 : w2.cell? ⟨g, 1, none⟩ = some (.int .i64 (k : Int)) := (hb.cell hlt).trans h1; have HO := Lib.hid ho; have HBW := Lib.hid hb; clear ho hg hb))
    have jf : w2.frozen? ⟨g, 1, none⟩ = false := (HB.out.below HBW.out).free 1
    go_wp2
    go_ret
    have HB2 := HB.out.below HBW.out
    have ho := HO.out
    rw [show 0 + (((k : Int) + (n : Int)).toNat - k) = n by omega] at ho
    refine ⟨A1, c1, congrArg (fun m => Ending.returned (.slice A1 m c1)) (show ((k : Int) + (n : Int)).toNat - k = n by omega), ?_, ⟨A, c, ?_, ?_, r1, r2, by omega, HR4.out⟩, ?_⟩
    · exact ownsRow_setCell_below ho hlt _
    · have := HB2.put 1 (.int .i64 ((k : Int) + (n : Int)))
      rw [← Int.natCast_add] at this
      simpa [curCells] using this
    · refine (HS.out.below HBW.out).grown (only_setCell (World.grownBy.refl w2 _) (.inl rfl) _) (fun hn b o e => (HR4.out hn b o e).2)
    · exact only_setCell (only_of_below HBW.out _) (.inl rfl) _
end Go.Proofs.Ytolkgljbphgacaa
