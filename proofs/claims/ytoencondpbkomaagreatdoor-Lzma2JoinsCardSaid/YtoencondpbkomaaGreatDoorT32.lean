/-
  LqRes, ZeroKit, LwZero, LwNew: put together.
-/
import Derived.Test.YtoencondpbkomaaGreatDoorT10
import Derived.Test.YtoencondpbkomaaGreatDoorT12
import Derived.Test.YtoencondpbkomaaGreatDoorT11
import Derived.Laws.MakeOwn
import Derived.Deep.AppendLies
import Derived.Test.YtoencondpbkomaaGreatDoorT01
import Derived.Laws.Tables
import Derived.Test.YtoencondpbkomaaGreatDoorT14
set_option linter.unusedVariables false
set_option linter.unusedSimpArgs false
/-
  The laws' great quota; what an Unpack answers under it; a row that grows.
-/
namespace Go.Proofs.YtoencondpbkomaaGreatDoor
open Go.RowKit

def muchQ : Quo := ⟨1099511627776, 1099511627776, 1099511627776, 1099511627776, 1099511627776⟩
theorem much_lit : Lit64 muchQ := by constructor <;> dsimp only [muchQ] <;> omega
theorem much_up : muchQ.up = muchQ := by simp [Quo.up, muchQ]; omega
theorem much_fine : Fine muchQ Tel.zero := much_up ▸ Fine.new much_lit
def codeU : Option (List UInt8) → Int
  | none => 12
  | some _ => 0
/-- what is answered, the meter's memory given back -/
def UpPost (w : World) (m : Nat) (o : Option (List UInt8)) (cd : Int) (x : Ending) (w' : World) : Prop :=
  (∃ t, MeterAt w' 83 m muchQ t ∧ t.mem = 0) ∧ Only (fun i => i = m) w w' ∧ ∃ A c, x = .returned (.tuple #[.slice A (o.getD []).length c, .int .i64 cd]) ∧ Sl w' A (o.getD []).length (bv (o.getD []))
set_option maxHeartbeats 2000000 in
theorem much_any (w : World) : Calls Tryz.prog 8 #[] w fun e w' => ∃ g, e = .returned (.pointer (some ⟨g, 0, none⟩)) ∧ MeterAt w' 83 g muchQ Tel.zero ∧ w.heap.size ≤ g ∧ Below w.heap.size w w' := by
  have K := mnew_any muchQ w
  rw [much_up] at K
  have K : Calls Tryz.prog 16 #[.agg #[.int .i64 1099511627776, .int .i64 1099511627776, .int .i64 1099511627776, .int .i64 1099511627776, .int .i64 1099511627776]] w fun e w' => ∃ g, e = .returned (.pointer (some ⟨g, 0, none⟩)) ∧ MeterAt w' 83 g muchQ Tel.zero ∧ w.heap.size ≤ g ∧ Below w.heap.size w w' := K
  have K := Lib.hid K
  go_enter Tryz.func8, Tryz.ntmps8
  go_wp2_with fail
  refine K.out.mono ?_
  rintro e w1 ⟨g, rfl, hM, hg, hb⟩
  have HE := Lib.hid (And.intro hM (And.intro hg hb))
  clear hM hg hb K
  go_wp2_with fail
  go_ret
  exact ⟨g, rfl, HE.out.1, HE.out.2.1, HE.out.2.2⟩
section
variable {P : Program} (w : World)
theorem wpList_appO {ops : Array Oper} {rest : List Oper} {o : Oper} {a : Act} {Q : Exit → Act → World → Prop} (hgd : o.guard = none) (s x : Operand) (t : TypeId)
    (ho : o.op = .call { callee := .builtin .append, args := #[s, x], argTypes := #[t, t] })
    (base : Nat) (e : TypeId) (i : TypeInfo) (z : Value) (bytes : Nat) (ht : P.underlying t = some (.slice e)) (hi : P.info? e = some i) (hz : i.zero = some z)
    (hsize : i.size = 1) (hby : i.bytes = bytes) (hzs : z.cells.size = 1)
    (v : Value) (n : Nat) (xs : List Value) (hs : a.eval s = v) (hown : w.ownsRow base e 1 v n xs)
    (A : Option Addr) (m c : Nat) (news : List Value) (hx : a.eval x = .slice A m c) (hr : Sl w A m news) (h1 : ∀ u ∈ news, u.oneCell' = true)
    (hbytes : (n + m) * bytes ≤ 140737488355328) (hb0 : 0 < bytes) (hbase : base ≤ w.heap.size)
    (h : ∀ A' c' w', w'.ownsRow base e 1 (.slice A' (n + m) c') (n + m) (xs ++ news) → w.grownBy w' v.ownBlock → ((Value.slice A' (n + m) c').ownBlock = v.ownBlock ∨ (Value.slice A' (n + m) c').ownBlock = some w.heap.size) → wpList P ops Q rest (a.put o.dst (.slice A' (n + m) c')) w') : wpList P ops Q (o :: rest) a w :=
  wpList_plain hgd fun K hK => by
    obtain ⟨v', w', hrun, h2, h3, h4⟩ := run_app (P := P) w base t o.type e i z bytes ht hi hz hsize hby hzs v n xs hown A m c news hr h1 hbytes hb0 hbase
    obtain ⟨A', c', rfl, h2⟩ := own_form h2
    unfold Oper.wp execOp
    simp only [ho, resolve, invoke, builtin, Sem.run_bind, Sem.run_pure, Result.andThen_ok, List.map_toArray, List.map_cons, List.map_nil, hs, hx, hrun]
    exact hK _ _ (h A' c' w' h2 h3 h4)
end

/-- how long a slice is -/
def slLen (v : Value) : Nat := match v with | .slice _ n _ => n | _ => 0
theorem much_mem {a b : Int} (ha : 0 ≤ a) (ha1 : a ≤ 1000000) (hb : 0 ≤ b) (hb1 : b ≤ 1000000) :
    fits Tel.zero.code Tel.zero.mem muchQ.mem a ∧ fits (Tel.zero.doMem muchQ a).code (Tel.zero.doMem muchQ a).mem muchQ.mem b ∧ (((((Tel.zero.doMem muchQ a).doMem muchQ b).doFree a).doFree b).mem = 0) := by
  have e0 : Tel.zero.mem = 0 := rfl
  have e1 : Tel.zero.code = 0 := rfl
  have e2 : muchQ.mem = 1099511627776 := rfl
  have f1 : (Tel.zero.doMem muchQ a).code = 0 := by
    show codeOf Tel.zero.code Tel.zero.mem muchQ.mem a 101 = 0
    rw [e0, e1, e2]
    unfold codeOf
    split <;> omega
  have f2 : (Tel.zero.doMem muchQ a).mem = a := by
    show wasOf Tel.zero.code Tel.zero.mem muchQ.mem a = a
    rw [e0, e1, e2]
    unfold wasOf
    split <;> omega
  have f3 : ((Tel.zero.doMem muchQ a).doMem muchQ b).mem = a + b := by
    show wasOf (Tel.zero.doMem muchQ a).code (Tel.zero.doMem muchQ a).mem muchQ.mem b = a + b
    rw [f1, f2, e2]
    unfold wasOf
    split <;> omega
  refine ⟨?_, ?_, ?_⟩
  · rw [e0, e1, e2]
    exact ⟨rfl, by omega⟩
  · rw [f1, f2, e2]
    exact ⟨rfl, by omega⟩
  · show max ((max (((Tel.zero.doMem muchQ a).doMem muchQ b).mem - max a 0) 0) - max b 0) 0 = 0
    rw [f3]
    omega

theorem own_at {w : World} {base : Nat} {e : TypeId} {v : Value} {n : Nat} {xs : List Value} (h : w.ownsRow base e 1 v n xs) {b : Nat} (hb : v.ownBlock = some b) : base ≤ b ∧ b < w.heap.size := by
  rcases h.2 with ⟨rfl, _⟩ | ⟨g, cap, cur, rfl, h1, h2, _⟩
  · cases hb
  · injection hb with hb
    subst hb
    exact ⟨h1, (Array.getElem?_eq_some_iff.1 h2).1⟩
theorem own_onlyV {w w' : World} {S : Nat → Prop} {base : Nat} {e : TypeId} {v : Value} {n : Nat} {xs : List Value} (h : w.ownsRow base e 1 v n xs) (hO : Only S w w') (hS : ∀ b, v.ownBlock = some b → ¬ S b) : w'.ownsRow base e 1 v n xs := by
  refine ⟨h.1, ?_⟩
  rcases h.2 with hn | ⟨g, cap, cur, rfl, hb, hgg, rest⟩
  · exact .inl hn
  · refine .inr ⟨g, cap, cur, rfl, hb, ?_, rest⟩
    rw [hO.block g (Array.getElem?_eq_some_iff.1 hgg).1 (hS g rfl)]
    exact hgg

end Go.Proofs.YtoencondpbkomaaGreatDoor

/-
  Zeros of great structs, cell by cell.
-/
namespace Go.Proofs.YtoencondpbkomaaGreatDoor
open Go.RowKit

/-- a type's zero, cell by cell; it is never written out -/
def zOf (P : Program) (t : TypeId) : Array Value := match P.info? t with
  | some i => (match i.zero with | some v => v.cells | none => #[])
  | none => #[]
/-- kinds of zeros -/
def vk : Nat → Value
  | 0 => .int .u16 0
  | 1 => .int .i64 0
  | 2 => .int .u32 0
  | 3 => .nilIface
  | 4 => .pointer none
  | 5 => .slice none 0 0
  | _ => .bool false
def isz (k : Nat) (v : Value) : Bool := match k, v with
  | 0, .int .u16 x => x == 0
  | 1, .int .i64 x => x == 0
  | 2, .int .u32 x => x == 0
  | 3, .nilIface => true
  | 4, .pointer none => true
  | 5, .slice none 0 0 => true
  | 6, .bool false => true
  | _, _ => false
theorem isz_sound (k : Nat) (v : Value) (h : isz k v = true) : v = vk k := by
  unfold isz at h
  split at h
  all_goals first
    | (cases h; done)
    | rfl
    | (have := eq_of_beq h; subst this; rfl)
end Go.Proofs.YtoencondpbkomaaGreatDoor

/-
  The program's decoder of LZMA, as it is built.
-/
namespace Go.Proofs.YtoencondpbkomaaGreatDoor
open Go.RowKit

def zk (i : Nat) : Nat := if 1862 < i then (if i = 1863 then 1 else 6) else if i = 1862 then 5 else if 15 ≤ i then 0 else if 11 ≤ i then 2 else if i = 4 then 3 else if i = 5 then 4 else if i = 6 then 4 else if i = 7 then 4 else 1
def chk : Nat → List Value → Bool
  | i, [] => i == 1866
  | i, v :: l => isz (zk i) v && chk (i + 1) l
theorem chk_sound : ∀ (l : List Value) (i : Nat), chk i l = true → i + l.length = 1866 ∧ ∀ j, j < l.length → l[j]? = some (vk (zk (i + j)))
  | [], i, h => ⟨by have := eq_of_beq h; simpa using this, fun j hj => by simp at hj⟩
  | v :: l, i, h => by
    unfold chk at h
    obtain ⟨h1, h2⟩ := Bool.and_eq_true_iff.1 h
    obtain ⟨g1, g2⟩ := chk_sound l (i + 1) h2
    refine ⟨by simp only [List.length_cons]; omega, fun j hj => ?_⟩
    cases j with
    | zero => simp [isz_sound _ _ h1]
    | succ j =>
      simp only [List.length_cons] at hj
      rw [List.getElem?_cons_succ, g2 j (by omega)]
      congr 3
      omega
set_option maxRecDepth 1000000 in
theorem zero_chk : chk 0 (zOf Tryz.prog 150).toList = true := by kernel_rfl
def madeDec (Z : Array Value) (x y : Option Addr) (r : Int) (A : Option Addr) (n c : Nat) : Array Value :=
  (((Z.setIfInBounds 6 (.pointer x)).setIfInBounds 7 (.pointer y)).setIfInBounds 8 (.int .i64 r)).setIfInBounds 1862 (.slice A n c)
theorem zero_size : (zOf Tryz.prog 150).size = 1866 := by
  have := (chk_sound _ _ zero_chk).1
  rw [Array.length_toList] at this
  omega
theorem zero_get (i : Nat) (h : i < 1866) : (zOf Tryz.prog 150)[i]? = some (vk (zk i)) := by
  have := (chk_sound _ _ zero_chk).2 i (by rw [Array.length_toList, zero_size]; exact h)
  rw [Nat.zero_add, Array.getElem?_toList] at this
  exact this
theorem zero_low (a : Nat) (h : a < 1847) : (zOf Tryz.prog 150)[15 + a]? = some (.int .u16 0) := by
  rw [zero_get _ (by omega)]
  unfold zk
  rw [if_neg (by omega), if_neg (by omega), if_pos (by omega)]
  rfl
def decPlaces : List (Nat × Nat) := [(0, 4), (4, 1), (5, 1), (6, 1), (7, 1), (8, 1), (9, 1), (10, 1), (11, 4), (15, 1847), (1862, 1), (1863, 1), (1864, 1), (1865, 1)]
theorem made_at {K : Kon} {w : World} (hB : Blk w K.g 150 (madeDec (zOf Tryz.prog 150) (some ⟨K.wg, 0, none⟩) (some ⟨K.m, 0, none⟩) K.room (some ⟨K.lb, 0, none⟩) K.nl K.nl)) : LzAt w K.g (unFs K 0 0 0 0) (List.replicate (1847 + K.nl) 0) := by
  refine ⟨_, hB, by unfold madeDec; simp [zero_size], rfl, fun k hk => ?_, fun a ha => ?_⟩
  · have hs := zero_size
    unfold madeDec
    match k, hk with
    | 0, _ => exact (by rw [show fat 0 = 0 from rfl]; simp [zero_get 0 (by decide)]; rfl)
    | 1, _ => exact (by rw [show fat 1 = 1 from rfl]; simp [zero_get 1 (by decide)]; rfl)
    | 2, _ => exact (by rw [show fat 2 = 2 from rfl]; simp [zero_get 2 (by decide)]; rfl)
    | 3, _ => exact (by rw [show fat 3 = 3 from rfl]; simp [zero_get 3 (by decide)]; rfl)
    | 4, _ => exact (by rw [show fat 4 = 4 from rfl]; simp [zero_get 4 (by decide)]; rfl)
    | 5, _ => exact (by rw [show fat 5 = 5 from rfl]; simp [zero_get 5 (by decide)]; rfl)
    | 6, _ => exact (by rw [show fat 6 = 6 from rfl]; simp [hs]; rfl)
    | 7, _ => exact (by rw [show fat 7 = 7 from rfl]; simp [hs]; rfl)
    | 8, _ => exact (by rw [show fat 8 = 8 from rfl]; simp [hs]; rfl)
    | 9, _ => exact (by rw [show fat 9 = 9 from rfl]; simp [zero_get 9 (by decide)]; rfl)
    | 10, _ => exact (by rw [show fat 10 = 10 from rfl]; simp [zero_get 10 (by decide)]; rfl)
    | 11, _ => exact (by rw [show fat 11 = 11 from rfl]; simp [zero_get 11 (by decide)]; rfl)
    | 12, _ => exact (by rw [show fat 12 = 12 from rfl]; simp [zero_get 12 (by decide)]; rfl)
    | 13, _ => exact (by rw [show fat 13 = 13 from rfl]; simp [zero_get 13 (by decide)]; rfl)
    | 14, _ => exact (by rw [show fat 14 = 14 from rfl]; simp [zero_get 14 (by decide)]; rfl)
    | 15, _ => exact (by rw [show fat 15 = 1862 from rfl]; simp [hs]; rfl)
    | 16, _ => exact (by rw [show fat 16 = 1863 from rfl]; simp [zero_get 1863 (by decide)]; rfl)
    | 17, _ => exact (by rw [show fat 17 = 1864 from rfl]; simp [zero_get 1864 (by decide)]; rfl)
    | 18, _ => exact (by rw [show fat 18 = 1865 from rfl]; simp [zero_get 1865 (by decide)]; rfl)
    | k + 19, hk => omega
  · have := sg_lt ha
    unfold madeDec
    rw [Array.getElem?_setIfInBounds_ne (by omega), Array.getElem?_setIfInBounds_ne (by omega), Array.getElem?_setIfInBounds_ne (by omega), Array.getElem?_setIfInBounds_ne (by omega), zero_low _ this]
    simp [List.getD, show a < 1847 + K.nl by omega]
end Go.Proofs.YtoencondpbkomaaGreatDoor

/-
  The program's decoder of LZMA: a new one.
-/
namespace Go.Proofs.YtoencondpbkomaaGreatDoor
open Go.RowKit

/-- A decoder that has begun nothing. -/
structure Un (K : Kon) (w : World) (Gw : Nat → Prop) (lc lp pb dict : Nat) : Prop where
  row : Rk K (unFs K lc lp pb dict) w (List.replicate (1847 + K.nl) 1024)
  win : Pwin w K.wg Gw K.m ⟨K.sz, [], false⟩
  gn : K.g ≠ K.lb
  mg : K.m ≠ K.g
  mb : K.m ≠ K.lb
  wd : ∀ i, Gw i → i ≠ K.g ∧ i ≠ K.lb ∧ i ≠ K.m ∧ i < w.heap.size
  nc : K.nc = K.nl
  sd : K.sd = (dict : Int)
def NewPost (w : World) (m : Nat) (q : Quo) (t : Tel) (lc lp pb dict : Nat) (size : Int) (e : Ending) (w' : World) : Prop :=
  ∃ (K : Kon) (Gw : Nat → Prop), K.m = m ∧ K.room = 2 * (probsN lc lp : Int) ∧ K.sz = (max (min (dict : Int) size) 1).toNat ∧ K.nl = 768 * 2 ^ (lc + lp) ∧ e = .returned (.tuple #[.pointer (some ⟨K.g, 0, none⟩), .int .i64 0]) ∧
    Un K w' Gw lc lp pb dict ∧ MeterAt w' 83 m q ((t.doMem q (max (min (dict : Int) size) 1)).doMem q (2 * (probsN lc lp : Int))) ∧ (w.heap.size ≤ K.g ∧ w.heap.size ≤ K.lb ∧ ∀ i, Gw i → w.heap.size ≤ i) ∧ Only (fun i => i = m) w w'

set_option maxRecDepth 100000 in
set_option maxHeartbeats 2000000 in
theorem pprobs_any {lc lp pb dict : Nat} (h : SetOk lc lp pb dict) (w : World) : Calls Tryz.prog 65 #[.agg #[.int .i64 (lc : Int), .int .i64 (lp : Int), .int .i64 (pb : Int), .int .i64 (dict : Int)]] w fun e w' => e = .returned (.int .i64 (probsN lc lp : Int)) ∧ Below w.heap.size w w' := by
  obtain ⟨w1, hw1⟩ : ∃ w1, w1 = w.alloc (.cells #[.int .i64 (lc : Int), .int .i64 (lp : Int), .int .i64 (pb : Int), .int .i64 (dict : Int)] 40) := ⟨_, rfl⟩
  have hb1 : Below w.heap.size w w1 := by rw [hw1]; exact (Below.refl _ _).alloc (Nat.le_refl _) _
  have HBk : Blk w1 w.heap.size 40 #[.int .i64 (lc : Int), .int .i64 (lp : Int), .int .i64 (pb : Int), .int .i64 (dict : Int)] := by rw [hw1]; exact Blk.fresh w _ _
  have KM := pmay_any (lc : Int) (lp : Int) (pb : Int) (dict : Int) w1
  rw [setOk_may h] at KM
  have KM := Lib.hid KM
  have KL := fun w => plits_any (lc := lc) (lp := lp) (pb : Int) (dict : Int) (by have := h.1; have := h.2.1; omega) w
  have hp := (probsN_is h).2.1
  obtain ⟨y, hy⟩ : ∃ y, y = 768 * 2 ^ (lc + lp) := ⟨_, rfl⟩
  have hpn : probsN lc lp = 1847 + y := by unfold probsN; rw [hy]
  rw [← hy] at KL
  rw [hpn] at hp ⊢
  have KL := Lib.hid KL
  have e1 : IntKind.i64.wrap (1847 + (y : Int)) = ((1847 + y : Nat) : Int) := by rw [show 1847 + (y : Int) = ((1847 + y : Nat) : Int) by omega]; exact IntWalk.i64_in _ (by omega)
  obtain ⟨r, hr⟩ : ∃ r, r = 1847 + y := ⟨_, rfl⟩
  rw [← hr] at e1 ⊢
  have c0 : w1.cell? ⟨w.heap.size, 0, none⟩ = some (.int .i64 (lc : Int)) := HBk.cell 0
  have c1 : w1.cell? ⟨w.heap.size, 1, none⟩ = some (.int .i64 (lp : Int)) := HBk.cell 1
  have c2 : w1.cell? ⟨w.heap.size, 2, none⟩ = some (.int .i64 (pb : Int)) := HBk.cell 2
  have c3 : w1.cell? ⟨w.heap.size, 3, none⟩ = some (.int .i64 (dict : Int)) := HBk.cell 3
  have HW1 := Lib.hid hw1
  have HB1 := Lib.hid hb1
  have HBK := Lib.hid HBk
  clear hw1 hb1 HBk h hp hy hpn hr
  go_enter Tryz.func65, Tryz.ntmps65
  go_upto_region 1 with fail
  rw [← HW1.out]
  clear HW1
  go_wp2_with fail
  refine KM.out.mono ?_
  rintro e w2 ⟨rfl, hb2⟩
  have hk2 : Blk w2 w.heap.size 40 #[.int .i64 (lc : Int), .int .i64 (lp : Int), .int .i64 (pb : Int), .int .i64 (dict : Int)] := HBK.out.below hb2
  have d0 : w2.cell? ⟨w.heap.size, 0, none⟩ = some (.int .i64 (lc : Int)) := hk2.cell 0
  have d1 : w2.cell? ⟨w.heap.size, 1, none⟩ = some (.int .i64 (lp : Int)) := hk2.cell 1
  have d2 : w2.cell? ⟨w.heap.size, 2, none⟩ = some (.int .i64 (pb : Int)) := hk2.cell 2
  have d3 : w2.cell? ⟨w.heap.size, 3, none⟩ = some (.int .i64 (dict : Int)) := hk2.cell 3
  have HB2 := Lib.hid (HB1.out.trans ⟨hb2.os, hb2.tape, hb2.output, hb2.size, fun i hi => hb2.block i (Nat.lt_of_lt_of_le hi HB1.out.size)⟩)
  clear hb2 hk2 KM c0 c1 c2 c3 HB1
  go_wp2_with fail
  refine (KL.out _).mono ?_
  rintro e w3 ⟨rfl, hb3⟩
  have HB3 := Lib.hid (HB2.out.trans ⟨hb3.os, hb3.tape, hb3.output, hb3.size, fun i hi => hb3.block i (Nat.lt_of_lt_of_le hi HB2.out.size)⟩)
  clear hb3 KL d0 d1 d2 d3
  go_wp2_with fail
  go_ret
  exact ⟨rfl, HB3.out⟩

set_option maxRecDepth 1000000 in
theorem zeroCells_chk : chk 0 Tryz.zeroCells150.toList = true := by kernel_rfl
theorem zero_link : Tryz.zeroCells150 = zOf Tryz.prog 150 := by
  have hs : Tryz.zeroCells150.size = 1866 := by
    have := (chk_sound _ _ zeroCells_chk).1
    rw [Array.length_toList] at this
    omega
  have hg : ∀ i, i < 1866 → Tryz.zeroCells150[i]? = some (vk (zk i)) := by
    intro i h
    have := (chk_sound _ _ zeroCells_chk).2 i (by rw [Array.length_toList, hs]; exact h)
    rw [Nat.zero_add, Array.getElem?_toList] at this
    exact this
  apply Array.ext_getElem?
  intro i
  by_cases h : i < 1866
  · rw [hg i h, zero_get i h]
  · rw [Array.getElem?_eq_none (by omega), Array.getElem?_eq_none (by rw [zero_size]; omega)]

theorem made_row (w : World) (n : Nat) (h : n ≤ 1000000) : Row (w.alloc (.cells (madeCells #[Value.int .u16 0] n) 35)) w.heap.size (List.replicate n 0) n := by
  have hm := madeNums n
  have hl : (madeCells #[Value.int .u16 0] n).size = n := by
    have := congrArg List.length hm
    rw [Array.length_toList, pv_length, List.length_replicate] at this
    exact this
  unfold Row
  rw [List.length_replicate]
  refine ⟨by simp [pv_length], .inr ⟨w.heap.size, n, madeCells #[Value.int .u16 0] n, rfl, Nat.zero_le _, heap_alloc_new w _, Nat.le_refl _, by unfold maxLen; omega, by omega, ?_⟩⟩
  rw [Nat.mul_one, ← hm]
  exact List.take_of_length_le (by rw [Array.length_toList, hl]; exact Nat.le_refl _)

set_option maxRecDepth 100000 in
set_option maxHeartbeats 8000000 in
theorem lnew_any {w : World} {m lc lp pb dict : Nat} {q : Quo} {t : Tel} {size : Int} (h : SetOk lc lp pb dict) (h6 : lc + lp ≤ 6) (hM : MeterAt w 83 m q t) (hF : Fine q t) (h0 : -9223372036854775808 ≤ size) (h1 : size ≤ 1048576)
    (hf1 : fits t.code t.mem q.mem (max (min (dict : Int) size) 1)) (hf2 : fits (t.doMem q (max (min (dict : Int) size) 1)).code (t.doMem q (max (min (dict : Int) size) 1)).mem q.mem (2 * (probsN lc lp : Int))) :
    Calls Tryz.prog 38 #[.agg #[.int .i64 (lc : Int), .int .i64 (lp : Int), .int .i64 (pb : Int), .int .i64 (dict : Int)], .int .i64 size, .pointer (some ⟨m, 0, none⟩)] w (NewPost w m q t lc lp pb dict size) := by
  obtain ⟨i, hi, hz0, hz1, hz2⟩ := info_parts info_u16
  have hnlN := lits_small (k := lc + lp) (by omega)
  have hnl6 : 768 * 2 ^ (lc + lp) ≤ 1000000 := Nat.le_trans (Nat.mul_le_mul_left 768 (Nat.pow_le_pow_right (by decide) h6)) (by decide)
  have hpn := (probsN_is h).2.1
  have hprob : probsN lc lp = 1847 + 768 * 2 ^ (lc + lp) := rfl
  obtain ⟨nl, hnl⟩ : ∃ nl, nl = 768 * 2 ^ (lc + lp) := ⟨_, rfl⟩
  obtain ⟨w1, hw1⟩ : ∃ w1, w1 = w.alloc (.cells #[.int .i64 (lc : Int), .int .i64 (lp : Int), .int .i64 (pb : Int), .int .i64 (dict : Int)] 40) := ⟨_, rfl⟩
  have hO1 : Only (fun i => i = m) w w1 := by rw [hw1]; exact (Only.refl _ w).alloc _
  have HBk : Blk w1 w.heap.size 40 #[.int .i64 (lc : Int), .int .i64 (lp : Int), .int .i64 (pb : Int), .int .i64 (dict : Int)] := by rw [hw1]; exact Blk.fresh w _ _
  have hM1 : MeterAt w1 83 m q t := by rw [hw1]; exact hM.alloc _
  have hmB : m < w.heap.size := hM.lt
  have KM := pmay_any (lc : Int) (lp : Int) (pb : Int) (dict : Int) w1
  rw [setOk_may h] at KM
  have KM := Lib.hid KM
  have KL := fun w => plits_any (lc := lc) (lp := lp) (pb : Int) (dict : Int) (by omega) w
  rw [← hnl] at KL hnl6 hprob
  have KL := Lib.hid KL
  have KP := Lib.hid (fun w => pprobs_any h w)
  obtain ⟨n, hn⟩ : ∃ n, n = min (dict : Int) size := ⟨_, rfl⟩
  rw [← hn] at hf1 hf2
  have hd32 := h.2.2.2
  have hn1 : n ≤ 1048576 := by omega
  have hn0 : -9223372036854775808 ≤ n := by omega
  have HW1 := Lib.hid hw1
  have HO1 := Lib.hid hO1
  have HBK := Lib.hid HBk
  have HM1 := Lib.hid hM1
  have HH := Lib.hid (And.intro h (And.intro hF (And.intro hf1 (And.intro hf2 (And.intro hn (And.intro hnl hnl6))))))
  have HNB := Lib.hid (And.intro hn0 (And.intro hn1 hmB))
  obtain ⟨P, hP⟩ : ∃ P, P = probsN lc lp := ⟨_, rfl⟩
  rw [← hP] at KP
  have e1 : IntKind.i64.wrap (2 * (P : Int)) = 2 * (P : Int) := IntWalk.i64_in _ (by omega)
  have HP := Lib.hid hP
  have c0 : w1.cell? ⟨w.heap.size, 0, none⟩ = some (.int .i64 (lc : Int)) := HBk.cell 0
  have c1 : w1.cell? ⟨w.heap.size, 1, none⟩ = some (.int .i64 (lp : Int)) := HBk.cell 1
  have c2 : w1.cell? ⟨w.heap.size, 2, none⟩ = some (.int .i64 (pb : Int)) := HBk.cell 2
  have c3 : w1.cell? ⟨w.heap.size, 3, none⟩ = some (.int .i64 (dict : Int)) := HBk.cell 3
  have hmk : ∀ W : World, (Instr.makeSlice 62 (.int .i64 (nl : Int)) (.int .i64 (nl : Int))).run Tryz.prog W = .ok (.slice (some ⟨W.heap.size, 0, none⟩) nl nl) (W.alloc (.cells (madeCells #[Value.int .u16 0] nl) 35)) := by
    intro W
    have := run_make (P := Tryz.prog) W 62 35 i (.int .u16 0) Tryz.underlying62 hi hz0 .i64 .i64 (nl : Int) (nl : Int) (by omega) (Int.le_refl _) (by rw [hz2]; omega) (by omega)
    rw [hz1, Int.toNat_natCast, Nat.mul_one] at this
    exact this
  clear hw1 hO1 HBk hM1 h hF hf1 hf2 hn hnl hnl6 hn0 hn1 hmB hM h0 h1 hd32 hnlN hpn hprob hP hi hz0 hz1 hz2 h6
  go_enter Tryz.func38, Tryz.ntmps38
  go_upto_region 1 with fail
  rw [← HW1.out]
  clear HW1
  generalize hB : w.heap.size = B at *
  go_wp2_with fail
  refine KM.out.mono ?_
  rintro e w2 ⟨rfl, hb2⟩
  have hk2 := HBK.out.below hb2
  have d3 : w2.cell? ⟨B, 3, none⟩ = some (.int .i64 (dict : Int)) := hk2.cell 3
  have HK2 := Lib.hid hk2
  have HO2 := Lib.hid (HO1.out.then hb2)
  have HM2 := Lib.hid (HM1.out.below hb2)
  have KW := wnew7_any (n := n) HM2.out HH.out.2.1 HNB.out.1 HNB.out.2.1 HH.out.2.2.1
  have hnn : min (dict : Int) size = n := HH.out.2.2.2.2.1.symm
  have KW := Lib.hid KW
  clear hb2 hk2 KM c0 c1 c2 c3 HBK HM1 HO1
  go_wp2_with fail
  refine KW.out.mono ?_
  rintro e w3 ⟨g, G, rfl, hP3, hM3, hGn, hO3⟩
  have hBm : B ≠ m := by have := HNB.out.2.2; omega
  have hk3 := HK2.out.only hO3 hBm
  have d0 : w3.cell? ⟨B, 0, none⟩ = some (.int .i64 (lc : Int)) := hk3.cell 0
  have d1 : w3.cell? ⟨B, 1, none⟩ = some (.int .i64 (lp : Int)) := hk3.cell 1
  have d2 : w3.cell? ⟨B, 2, none⟩ = some (.int .i64 (pb : Int)) := hk3.cell 2
  have d3' : w3.cell? ⟨B, 3, none⟩ = some (.int .i64 (dict : Int)) := hk3.cell 3
  have HK3 := Lib.hid hk3
  have HO3 := Lib.hid (HO2.out.trans hO3)
  have HM3 := Lib.hid hM3
  have HW3 := Lib.hid hP3
  have HGN := Lib.hid (And.intro hGn hO3)
  clear hP3 hM3 hGn hO3 hk3 KW HK2 HM2 hnn d3
  go_wp2_with fail
  refine (KP.out w3).mono ?_
  rintro e w4 ⟨rfl, hb4⟩
  have hO4 : Only (fun _ => False) w3 w4 := Only.of_below hb4
  have HO4 := Lib.hid (HO3.out.then hb4)
  have HM4 := Lib.hid (HM3.out.below hb4)
  have HW4 := Lib.hid (HW3.out.only hO4 (fun _ _ h => h))
  have HK4 := Lib.hid (HK3.out.below hb4)
  have HG4 := Lib.hid (show ∀ i, G i → i < w4.heap.size from fun i hi => Nat.lt_of_lt_of_le (HW3.out.old hi) hb4.size)
  have KQ := mem_any HM4.out (HH.out.2.1.mem _) (2 * (P : Int))
  have hfit : decide (fits (t.doMem q (max n 1)).code (t.doMem q (max n 1)).mem q.mem (2 * (P : Int))) = true := by rw [HP.out]; exact decide_eq_true HH.out.2.2.2.1
  rw [hfit] at KQ
  have KQ := Lib.hid KQ
  clear hb4 hO4 HO3 HM3 HK3 KP d0 d1 d2 d3' hfit
  go_wp2_with fail
  refine KQ.out.mono ?_
  rintro e w5 ⟨rfl, hM5, hg5⟩
  have hO5 : Only (fun i => i = m) w4 w5 := Only.of_grown hg5 rfl
  have hk5 := HK4.out.only hO5 hBm
  have d0 : w5.cell? ⟨B, 0, none⟩ = some (.int .i64 (lc : Int)) := hk5.cell 0
  have d1 : w5.cell? ⟨B, 1, none⟩ = some (.int .i64 (lp : Int)) := hk5.cell 1
  have d2 : w5.cell? ⟨B, 2, none⟩ = some (.int .i64 (pb : Int)) := hk5.cell 2
  have d3 : w5.cell? ⟨B, 3, none⟩ = some (.int .i64 (dict : Int)) := hk5.cell 3
  have HK5 := Lib.hid hk5
  have HM5 := Lib.hid hM5
  have hGm : ∀ i, G i → i ≠ m := fun i hi => by
    have := HGN.out.1 i hi
    have := HO2.out.size
    have := HNB.out.2.2
    omega
  have HW5 := Lib.hid (HW4.out.only hO5 (fun i hi => hGm i hi))
  have HO5 := Lib.hid (HO4.out.trans hO5)
  have HG5 := Lib.hid (show ∀ i, G i → i < w5.heap.size from fun i hi => Nat.lt_of_lt_of_le (HG4.out i hi) hO5.size)
  have HGM := Lib.hid hGm
  clear hM5 hg5 hO5 hk5 hGm KQ HK4 HM4 HW4 HO4 HG4 HW3
  go_wp2_with fail
  refine (KL.out w5).mono ?_
  rintro e w6 ⟨rfl, hb6⟩
  have hO6 : Only (fun _ => False) w5 w6 := Only.of_below hb6
  have hk6 := HK5.out.below hb6
  have d0 : w6.cell? ⟨B, 0, none⟩ = some (.int .i64 (lc : Int)) := hk6.cell 0
  have d1 : w6.cell? ⟨B, 1, none⟩ = some (.int .i64 (lp : Int)) := hk6.cell 1
  have d2 : w6.cell? ⟨B, 2, none⟩ = some (.int .i64 (pb : Int)) := hk6.cell 2
  have d3 : w6.cell? ⟨B, 3, none⟩ = some (.int .i64 (dict : Int)) := hk6.cell 3
  have HM6 := Lib.hid (HM5.out.below hb6)
  have HW6 := Lib.hid (HW5.out.only hO6 (fun _ _ h => h))
  have HO6 := Lib.hid (HO5.out.then hb6)
  have HG6 := Lib.hid (show ∀ i, G i → i < w6.heap.size from fun i hi => Nat.lt_of_lt_of_le (HG5.out i hi) hb6.size)
  have HK6 := Lib.hid hk6
  clear hb6 hO6 hk6 HK5 HM5 HW5 HO5 HG5
  go_upto_region 11 with fail
  obtain ⟨lb, hlb⟩ : ∃ lb, lb = w6.heap.size := ⟨_, rfl⟩
  obtain ⟨cs, hcs⟩ : ∃ cs, cs = (((Tryz.zeroCells150.setIfInBounds 6 (Value.pointer (some ⟨g, 0, none⟩))).setIfInBounds 7 (Value.pointer (some ⟨m, 0, none⟩))).setIfInBounds 8 (Value.int .i64 (2 * (P : Int)))).setIfInBounds 1862 (Value.slice (some ⟨w6.heap.size, 0, none⟩) nl nl) := ⟨_, rfl⟩
  obtain ⟨w7, hw7⟩ : ∃ w7, w7 = w6.alloc (.cells (madeCells #[Value.int .u16 0] nl) 35) := ⟨_, rfl⟩
  have hs7 : w7.heap.size = lb + 1 := by rw [hw7, hlb]; simp
  obtain ⟨w8, hw8⟩ : ∃ w8, w8 = w7.alloc (.cells cs 150) := ⟨_, rfl⟩
  have hrow8 : Row w8 lb (List.replicate nl 0) nl := by
    have h1 := made_row w6 nl HH.out.2.2.2.2.2.2
    rw [← hw7, ← hlb] at h1
    rw [hw8]
    exact h1.only ((Only.refl (fun _ => False) w7).alloc _) (fun h => h)
  have hblk8 : Blk w8 (lb + 1) 150 cs := by
    rw [hw8, ← hs7]
    exact Blk.fresh w7 _ _
  have hO8 : Only (fun _ => False) w6 w8 := by rw [hw8, hw7]; exact ((Only.refl _ w6).alloc _).alloc _
  obtain ⟨K, hK⟩ : ∃ K : Kon, K = ⟨lb + 1, lb, nl, g, m, 0, ⟨0, fun _ _ _ => True, fun _ => False, fun _ => False⟩, [], 2 * (P : Int), (max n 1).toNat, nl, (dict : Int)⟩ := ⟨_, rfl⟩
  have kg : K.g = lb + 1 := by rw [hK]
  have kb : K.lb = lb := by rw [hK]
  have kn : K.nl = nl := by rw [hK]
  have km : K.m = m := by rw [hK]
  have kw : K.wg = g := by rw [hK]
  have kr : K.room = 2 * (P : Int) := by rw [hK]
  have kz : K.sz = (max n 1).toNat := by rw [hK]
  have kc : K.nc = nl := by rw [hK]
  have kd : K.sd = (dict : Int) := by rw [hK]
  have hmB6 : m < lb := by
    have h1 := HM6.out.lt
    omega
  have hGlb : ∀ i, G i → i < lb := fun i hi => by rw [hlb]; exact HG6.out i hi
  have hrk : Rk K (unFs K 0 0 0 0) w8 (List.replicate (1847 + K.nl) 0) := by
    refine ⟨?_, ?_, by simp⟩
    · refine made_at ?_
      rw [kg, kw, km, kr, kb, kn]
      rw [hcs, ← hlb, zero_link] at hblk8
      exact hblk8
    · have : (List.replicate (1847 + K.nl) 0).drop 1847 = List.replicate nl 0 := by rw [List.drop_replicate, kn]; congr 1; omega
      rw [this, kb, kc]
      exact ⟨[], by rw [List.append_nil]; exact hrow8, by rw [List.append_nil, List.length_replicate]⟩
  have KR := preset_any (K := K) (lc := lc) (lp := lp) (pb := pb) (d := (dict : Int)) (by rw [kg, kb]; omega) HH.out.1.1 HH.out.1.2.1 HH.out.1.2.2.1 (by rw [kn]; exact HH.out.2.2.2.2.2.1) (by rw [kn]; exact HH.out.2.2.2.2.2.2) hrk
  rw [kg] at KR
  have KR := Lib.hid KR
  have hk8 := HK6.out.only hO8 (fun h => h)
  have d0 : w8.cell? ⟨B, 0, none⟩ = some (.int .i64 (lc : Int)) := hk8.cell 0
  have d1 : w8.cell? ⟨B, 1, none⟩ = some (.int .i64 (lp : Int)) := hk8.cell 1
  have d2 : w8.cell? ⟨B, 2, none⟩ = some (.int .i64 (pb : Int)) := hk8.cell 2
  have d3 : w8.cell? ⟨B, 3, none⟩ = some (.int .i64 (dict : Int)) := hk8.cell 3
  have HX8 := Lib.hid (And.intro (HM6.out.only hO8 (fun h => h)) (And.intro (HW6.out.only hO8 (fun _ _ h => h)) (And.intro (HO6.out.trans (hO8.mono fun _ h => h.elim)) (And.intro hmB6 hGlb))))
  have HKC := Lib.hid (And.intro (kc.trans kn.symm) kd)
  have HKK := Lib.hid (And.intro kg (And.intro kb (And.intro kn (And.intro km (And.intro kw (And.intro kr kz))))))
  have HG8x := Lib.hid (show ∀ i, G i → i < w8.heap.size from fun i hi => Nat.lt_of_lt_of_le (HG6.out i hi) hO8.size)
  have HS8 := Lib.hid (show lb = w6.heap.size ∧ w.heap.size ≤ w6.heap.size from ⟨hlb, HO6.out.size⟩)
  rw [← hcs, ← hw7, ← hw8, ← hlb]
  clear hrk hrow8 hblk8 hO8 hk8 hw8 hw7 hs7 hcs kg kb kn km kw kr kz kc kd hK hmB6 hGlb HM6 HW6 HO6 HG6 HK6 hlb hmk
  go_wp2_with fail
  refine KR.out.mono ?_
  rintro e w9 ⟨rfl, hR9, hO9⟩
  have HR9 := Lib.hid (And.intro hR9 hO9)
  clear hR9 hO9 KR d0 d1 d2 d3
  go_wp2_with fail
  go_ret2
  obtain ⟨hM8, hW8, hOn8, hmB8, hG8⟩ := HX8.out
  obtain ⟨kg, kb, kn, km, kw, kr, kz⟩ := HKK.out
  obtain ⟨hR9, hO9⟩ := HR9.out
  obtain ⟨hh, hF, hf1, hf2, hn, hnl, hnl6⟩ := HH.out
  obtain ⟨hs8, hs0⟩ := HS8.out
  have hlt : ∀ i, G i → ¬ K.Bk i := by
    intro i hi hb
    have := hG8 i hi
    rcases hb with hb | hb
    · rw [kg] at hb; omega
    · rw [kb] at hb; omega
  have hmK : ¬ K.Bk m := by
    intro hb
    rcases hb with hb | hb
    · rw [kg] at hb; omega
    · rw [kb] at hb; omega
  have hP : P = probsN lc lp := HP.out
  subst hP
  have hW9 := hW8.only hO9 hlt
  have hO := hOn8.trans' hO9 (fun i hi => .inr (by
    rcases hi with hi | hi
    · rw [kg] at hi; omega
    · rw [kb] at hi; omega))
  have hgw := hO9.size
  have hg9 : ∀ i, G i → i < w9.heap.size := fun i hi => by
    have h1 := HG8x.out i hi
    omega
  refine ⟨K, G, km, kr, ?_, ?_, ?_, ⟨hR9, ?_, ?_, ?_, ?_, ?_, HKC.out.1, HKC.out.2⟩, ?_, ⟨?_, ?_, ?_⟩, hO⟩
  · rw [kz, hn]
  · rw [kn, hnl]
  · rw [kg]; rfl
  · rw [kw, km, kz]; exact hW9
  · rw [kg, kb]; omega
  · rw [km, kg]; omega
  · rw [km, kb]; omega
  · intro i hi
    have h1 := hG8 i hi
    have h2 := HGM.out i hi
    exact ⟨by rw [kg]; omega, by rw [kb]; omega, by rw [km]; exact h2, hg9 i hi⟩
  · rw [← hn]; exact hM8.only hO9 hmK
  · rw [kg]; omega
  · rw [kb]; omega
  · intro i hi
    have h1 := HGN.out.1 i hi
    have h2 := HO2.out.size
    omega
end Go.Proofs.YtoencondpbkomaaGreatDoor
