/-
  LqProp, LqRp, LqDict, LqRes, ZeroKit, LwZero: put together.
-/
import Derived.Test.YtoencondpbkomaaGreatDoorS01
import Derived.Test.YtoencondpbkomaaGreatDoorS02
import Derived.Test.YtoencondpbkomaaGreatDoorS24
import Derived.Test.YtoencondpbkomaaGreatDoorRows
import Derived.Tactics
import Derived.Tactics2
import Derived.LoopTactic
import Derived.Test.YtoencondpbkomaaGreatDoorS31
import Derived.Test.YtoencondpbkomaaGreatDoorS10
import Derived.Test.YtoencondpbkomaaGreatDoorS12
import Derived.Test.YtoencondpbkomaaGreatDoorS11
import Derived.Laws.MakeOwn
import Derived.Deep.AppendLies
import Derived.Laws.Tables
import Derived.Test.YtoencondpbkomaaGreatDoorS14
set_option linter.unusedVariables false
set_option linter.unusedSimpArgs false
/-
  The property of LZMA2.
-/
namespace Go.Proofs.YtoencondpbkomaaGreatDoor
open Go.RowKit

def dictN (p : Nat) : Nat := if p > 40 then 0 else if p = 40 then 4294967295 else (2 + p % 2) * 2 ^ (p / 2 + 11)
def dictC (p : Nat) : Int := if p > 40 then 11 else 0
theorem dict_all : ∀ p : Fin 41, 4096 ≤ dictN p.val ∧ dictN p.val < 4294967296 ∧ (p.val < 40 → dictN (p.val) < dictN (p.val + 1)) := by decide +kernel
theorem dict_le {p : Nat} (h : p ≤ 40) : 4096 ≤ dictN p ∧ dictN p < 4294967296 := ⟨(dict_all ⟨p, by omega⟩).1, (dict_all ⟨p, by omega⟩).2.1⟩

set_option maxRecDepth 100000 in
set_option maxHeartbeats 1000000 in
theorem qdict_any {p : Nat} (hp : p < 256) (w : World) :
    Calls Tryz.prog 37 #[.int .u8 (p : Int)] w fun e w' => e = .returned (.tuple #[.int .i64 (dictN p : Int), .int .i64 (dictC p)]) ∧ w = w' := by
  unfold dictN dictC
  by_cases h1 : p > 40
  · have c1 : (p : Int) > 40 := by omega
    rw [if_pos h1, if_pos h1]
    clear h1
    go_enter Tryz.func37, Tryz.ntmps37
    go_wp2_with fail
    go_ret2
    exact ⟨rfl, rfl⟩
  · have c1 : ¬ (p : Int) > 40 := by omega
    rw [if_neg h1, if_neg h1]
    by_cases h2 : p = 40
    · subst h2
      rw [if_pos rfl]
      clear h1 c1
      go_enter Tryz.func37, Tryz.ntmps37
      go_wp2_with fail
      go_ret2
      exact ⟨rfl, rfl⟩
    · rw [if_neg h2]
      have c2 : ((p : Int) == 40) = false := by simp; omega
      have hb : (2 : Nat) ^ (p / 2 + 11) ≤ 2 ^ 31 := Nat.pow_le_pow_right (by decide) (by omega)
      have hc : ((2 : Int) ^ (p / 2 + 11)) = ((2 ^ (p / 2 + 11) : Nat) : Int) := by simp
      have hx : (2 + (p : Int) % 2) * 2 ^ (p / 2 + 11) = (((2 + p % 2) * 2 ^ (p / 2 + 11) : Nat) : Int) := by rw [hc]; simp
      have hs : (2 + p % 2) * 2 ^ (p / 2 + 11) ≤ 3 * 2 ^ 31 := Nat.mul_le_mul (by omega) hb
      have e1 : wrap64 ((2 + (p : Int) % 2) * 2 ^ (p / 2 + 11)) = (2 + (p : Int) % 2) * 2 ^ (p / 2 + 11) := by
        refine IntWalk.wrap64_in _ ?_
        rw [hx]
        omega
      clear hx hs hb hc
      go_enter Tryz.func37, Tryz.ntmps37
      go_wp2_with fail
      go_ret2
      exact ⟨by simp, rfl⟩

/-- the least property whose dictionary is great enough, or none -/
def IsProp (dict : Int) (r : Nat) (c : Int) : Prop := (c = 0 ∧ r ≤ 40 ∧ dict ≤ (dictN r : Int) ∧ ∀ j, j < r → (dictN j : Int) < dict) ∨ (c = 11 ∧ r = 0 ∧ ∀ j, j ≤ 40 → (dictN j : Int) < dict)
def PropPost (dict : Int) (w : World) (e : Ending) (w' : World) : Prop := ∃ r c, e = .returned (.tuple #[.int .u8 ((r : Nat) : Int), .int .i64 c]) ∧ IsProp dict r c ∧ Below w.heap.size w w'

end Go.Proofs.YtoencondpbkomaaGreatDoor

/-
  The property of LZMA2: the reference.
-/
namespace Go.Proofs.YtoencondpbkomaaGreatDoor
open Go.RowKit

end Go.Proofs.YtoencondpbkomaaGreatDoor



/-
  The laws' great quota; what an Unpack answers under it; a row that grows.
-/
namespace Go.Proofs.YtoencondpbkomaaGreatDoor
open Go.RowKit

def muchQ : Quo := ⟨1099511627776, 1099511627776, 1099511627776, 1099511627776, 1099511627776⟩
theorem much_lit : Lit64 muchQ := by constructor <;> dsimp only [muchQ] <;> omega
theorem much_up : muchQ.up = muchQ := by simp [Quo.up, muchQ]; omega
theorem much_fine : Fine muchQ Tel.zero := much_up ▸ Fine.new much_lit
def codeU : Option (List UInt8) → Int
  | none => 12
  | some _ => 0
/-- what is answered, the meter's memory given back -/
def UpPost (w : World) (m : Nat) (o : Option (List UInt8)) (cd : Int) (x : Ending) (w' : World) : Prop :=
  (∃ t, MeterAt w' 83 m muchQ t ∧ t.mem = 0) ∧ Only (fun i => i = m) w w' ∧ ∃ A c, x = .returned (.tuple #[.slice A (o.getD []).length c, .int .i64 cd]) ∧ Sl w' A (o.getD []).length (bv (o.getD []))
set_option maxHeartbeats 2000000 in
theorem much_any (w : World) : Calls Tryz.prog 8 #[] w fun e w' => ∃ g, e = .returned (.pointer (some ⟨g, 0, none⟩)) ∧ MeterAt w' 83 g muchQ Tel.zero ∧ w.heap.size ≤ g ∧ Below w.heap.size w w' := by
  have K := mnew_any muchQ w
  rw [much_up] at K
  have K : Calls Tryz.prog 16 #[.agg #[.int .i64 1099511627776, .int .i64 1099511627776, .int .i64 1099511627776, .int .i64 1099511627776, .int .i64 1099511627776]] w fun e w' => ∃ g, e = .returned (.pointer (some ⟨g, 0, none⟩)) ∧ MeterAt w' 83 g muchQ Tel.zero ∧ w.heap.size ≤ g ∧ Below w.heap.size w w' := K
  have K := Lib.hid K
  go_enter Tryz.func8, Tryz.ntmps8
  go_wp2_with fail
  refine K.out.mono ?_
  rintro e w1 ⟨g, rfl, hM, hg, hb⟩
  have HE := Lib.hid (And.intro hM (And.intro hg hb))
  clear hM hg hb K
  go_wp2_with fail
  go_ret
  exact ⟨g, rfl, HE.out.1, HE.out.2.1, HE.out.2.2⟩
section
variable {P : Program} (w : World)
theorem wpList_appO {ops : Array Oper} {rest : List Oper} {o : Oper} {a : Act} {Q : Exit → Act → World → Prop} (hgd : o.guard = none) (s x : Operand) (t : TypeId)
    (ho : o.op = .call { callee := .builtin .append, args := #[s, x], argTypes := #[t, t] })
    (base : Nat) (e : TypeId) (i : TypeInfo) (z : Value) (bytes : Nat) (ht : P.underlying t = some (.slice e)) (hi : P.info? e = some i) (hz : i.zero = some z)
    (hsize : i.size = 1) (hby : i.bytes = bytes) (hzs : z.cells.size = 1)
    (v : Value) (n : Nat) (xs : List Value) (hs : a.eval s = v) (hown : w.ownsRow base e 1 v n xs)
    (A : Option Addr) (m c : Nat) (news : List Value) (hx : a.eval x = .slice A m c) (hr : Sl w A m news) (h1 : ∀ u ∈ news, u.oneCell' = true)
    (hbytes : (n + m) * bytes ≤ 140737488355328) (hb0 : 0 < bytes) (hbase : base ≤ w.heap.size)
    (h : ∀ A' c' w', w'.ownsRow base e 1 (.slice A' (n + m) c') (n + m) (xs ++ news) → w.grownBy w' v.ownBlock → ((Value.slice A' (n + m) c').ownBlock = v.ownBlock ∨ (Value.slice A' (n + m) c').ownBlock = some w.heap.size) → wpList P ops Q rest (a.put o.dst (.slice A' (n + m) c')) w') : wpList P ops Q (o :: rest) a w :=
  wpList_plain hgd fun K hK => by
    obtain ⟨v', w', hrun, h2, h3, h4⟩ := run_app (P := P) w base t o.type e i z bytes ht hi hz hsize hby hzs v n xs hown A m c news hr h1 hbytes hb0 hbase
    obtain ⟨A', c', rfl, h2⟩ := own_form h2
    unfold Oper.wp execOp
    simp only [ho, resolve, invoke, builtin, Sem.run_bind, Sem.run_pure, Result.andThen_ok, List.map_toArray, List.map_cons, List.map_nil, hs, hx, hrun]
    exact hK _ _ (h A' c' w' h2 h3 h4)
end

/-- how long a slice is -/
def slLen (v : Value) : Nat := match v with | .slice _ n _ => n | _ => 0
theorem much_mem {a b : Int} (ha : 0 ≤ a) (ha1 : a ≤ 1000000) (hb : 0 ≤ b) (hb1 : b ≤ 1000000) :
    fits Tel.zero.code Tel.zero.mem muchQ.mem a ∧ fits (Tel.zero.doMem muchQ a).code (Tel.zero.doMem muchQ a).mem muchQ.mem b ∧ (((((Tel.zero.doMem muchQ a).doMem muchQ b).doFree a).doFree b).mem = 0) := by
  have e0 : Tel.zero.mem = 0 := rfl
  have e1 : Tel.zero.code = 0 := rfl
  have e2 : muchQ.mem = 1099511627776 := rfl
  have f1 : (Tel.zero.doMem muchQ a).code = 0 := by
    show codeOf Tel.zero.code Tel.zero.mem muchQ.mem a 101 = 0
    rw [e0, e1, e2]
    unfold codeOf
    split <;> omega
  have f2 : (Tel.zero.doMem muchQ a).mem = a := by
    show wasOf Tel.zero.code Tel.zero.mem muchQ.mem a = a
    rw [e0, e1, e2]
    unfold wasOf
    split <;> omega
  have f3 : ((Tel.zero.doMem muchQ a).doMem muchQ b).mem = a + b := by
    show wasOf (Tel.zero.doMem muchQ a).code (Tel.zero.doMem muchQ a).mem muchQ.mem b = a + b
    rw [f1, f2, e2]
    unfold wasOf
    split <;> omega
  refine ⟨?_, ?_, ?_⟩
  · rw [e0, e1, e2]
    exact ⟨rfl, by omega⟩
  · rw [f1, f2, e2]
    exact ⟨rfl, by omega⟩
  · show max ((max (((Tel.zero.doMem muchQ a).doMem muchQ b).mem - max a 0) 0) - max b 0) 0 = 0
    rw [f3]
    omega

theorem own_at {w : World} {base : Nat} {e : TypeId} {v : Value} {n : Nat} {xs : List Value} (h : w.ownsRow base e 1 v n xs) {b : Nat} (hb : v.ownBlock = some b) : base ≤ b ∧ b < w.heap.size := by
  rcases h.2 with ⟨rfl, _⟩ | ⟨g, cap, cur, rfl, h1, h2, _⟩
  · cases hb
  · injection hb with hb
    subst hb
    exact ⟨h1, (Array.getElem?_eq_some_iff.1 h2).1⟩
theorem own_onlyV {w w' : World} {S : Nat → Prop} {base : Nat} {e : TypeId} {v : Value} {n : Nat} {xs : List Value} (h : w.ownsRow base e 1 v n xs) (hO : Only S w w') (hS : ∀ b, v.ownBlock = some b → ¬ S b) : w'.ownsRow base e 1 v n xs := by
  refine ⟨h.1, ?_⟩
  rcases h.2 with hn | ⟨g, cap, cur, rfl, hb, hgg, rest⟩
  · exact .inl hn
  · refine .inr ⟨g, cap, cur, rfl, hb, ?_, rest⟩
    rw [hO.block g (Array.getElem?_eq_some_iff.1 hgg).1 (hS g rfl)]
    exact hgg

end Go.Proofs.YtoencondpbkomaaGreatDoor

/-
  Zeros of great structs, cell by cell.
-/
namespace Go.Proofs.YtoencondpbkomaaGreatDoor
open Go.RowKit

/-- a type's zero, cell by cell; it is never written out -/
def zOf (P : Program) (t : TypeId) : Array Value := match P.info? t with
  | some i => (match i.zero with | some v => v.cells | none => #[])
  | none => #[]
/-- kinds of zeros -/
def vk : Nat → Value
  | 0 => .int .u16 0
  | 1 => .int .i64 0
  | 2 => .int .u32 0
  | 3 => .nilIface
  | 4 => .pointer none
  | 5 => .slice none 0 0
  | _ => .bool false
def isz (k : Nat) (v : Value) : Bool := match k, v with
  | 0, .int .u16 x => x == 0
  | 1, .int .i64 x => x == 0
  | 2, .int .u32 x => x == 0
  | 3, .nilIface => true
  | 4, .pointer none => true
  | 5, .slice none 0 0 => true
  | 6, .bool false => true
  | _, _ => false
theorem isz_sound (k : Nat) (v : Value) (h : isz k v = true) : v = vk k := by
  unfold isz at h
  split at h
  all_goals first
    | (cases h; done)
    | rfl
    | (have := eq_of_beq h; subst this; rfl)
end Go.Proofs.YtoencondpbkomaaGreatDoor

/-
  The program's decoder of LZMA, as it is built.
-/
namespace Go.Proofs.YtoencondpbkomaaGreatDoor
open Go.RowKit

def zk (i : Nat) : Nat := if 1862 < i then (if i = 1863 then 1 else 6) else if i = 1862 then 5 else if 15 ≤ i then 0 else if 11 ≤ i then 2 else if i = 4 then 3 else if i = 5 then 4 else if i = 6 then 4 else if i = 7 then 4 else 1
def chk : Nat → List Value → Bool
  | i, [] => i == 1866
  | i, v :: l => isz (zk i) v && chk (i + 1) l
theorem chk_sound : ∀ (l : List Value) (i : Nat), chk i l = true → i + l.length = 1866 ∧ ∀ j, j < l.length → l[j]? = some (vk (zk (i + j)))
  | [], i, h => ⟨by have := eq_of_beq h; simpa using this, fun j hj => by simp at hj⟩
  | v :: l, i, h => by
    unfold chk at h
    obtain ⟨h1, h2⟩ := Bool.and_eq_true_iff.1 h
    obtain ⟨g1, g2⟩ := chk_sound l (i + 1) h2
    refine ⟨by simp only [List.length_cons]; omega, fun j hj => ?_⟩
    cases j with
    | zero => simp [isz_sound _ _ h1]
    | succ j =>
      simp only [List.length_cons] at hj
      rw [List.getElem?_cons_succ, g2 j (by omega)]
      congr 3
      omega
set_option maxRecDepth 1000000 in
theorem zero_chk : chk 0 (zOf Tryz.prog 150).toList = true := by kernel_rfl
def madeDec (Z : Array Value) (x y : Option Addr) (r : Int) (A : Option Addr) (n c : Nat) : Array Value :=
  (((Z.setIfInBounds 6 (.pointer x)).setIfInBounds 7 (.pointer y)).setIfInBounds 8 (.int .i64 r)).setIfInBounds 1862 (.slice A n c)
theorem zero_size : (zOf Tryz.prog 150).size = 1866 := by
  have := (chk_sound _ _ zero_chk).1
  rw [Array.length_toList] at this
  omega
theorem zero_get (i : Nat) (h : i < 1866) : (zOf Tryz.prog 150)[i]? = some (vk (zk i)) := by
  have := (chk_sound _ _ zero_chk).2 i (by rw [Array.length_toList, zero_size]; exact h)
  rw [Nat.zero_add, Array.getElem?_toList] at this
  exact this
theorem zero_low (a : Nat) (h : a < 1847) : (zOf Tryz.prog 150)[15 + a]? = some (.int .u16 0) := by
  rw [zero_get _ (by omega)]
  unfold zk
  rw [if_neg (by omega), if_neg (by omega), if_pos (by omega)]
  rfl
def decPlaces : List (Nat × Nat) := [(0, 4), (4, 1), (5, 1), (6, 1), (7, 1), (8, 1), (9, 1), (10, 1), (11, 4), (15, 1847), (1862, 1), (1863, 1), (1864, 1), (1865, 1)]
theorem made_at {K : Kon} {w : World} (hB : Blk w K.g 150 (madeDec (zOf Tryz.prog 150) (some ⟨K.wg, 0, none⟩) (some ⟨K.m, 0, none⟩) K.room (some ⟨K.lb, 0, none⟩) K.nl K.nl)) : LzAt w K.g (unFs K 0 0 0 0) (List.replicate (1847 + K.nl) 0) := by
  refine ⟨_, hB, by unfold madeDec; simp [zero_size], rfl, fun k hk => ?_, fun a ha => ?_⟩
  · have hs := zero_size
    unfold madeDec
    match k, hk with
    | 0, _ => exact (by rw [show fat 0 = 0 from rfl]; simp [zero_get 0 (by decide)]; rfl)
    | 1, _ => exact (by rw [show fat 1 = 1 from rfl]; simp [zero_get 1 (by decide)]; rfl)
    | 2, _ => exact (by rw [show fat 2 = 2 from rfl]; simp [zero_get 2 (by decide)]; rfl)
    | 3, _ => exact (by rw [show fat 3 = 3 from rfl]; simp [zero_get 3 (by decide)]; rfl)
    | 4, _ => exact (by rw [show fat 4 = 4 from rfl]; simp [zero_get 4 (by decide)]; rfl)
    | 5, _ => exact (by rw [show fat 5 = 5 from rfl]; simp [zero_get 5 (by decide)]; rfl)
    | 6, _ => exact (by rw [show fat 6 = 6 from rfl]; simp [hs]; rfl)
    | 7, _ => exact (by rw [show fat 7 = 7 from rfl]; simp [hs]; rfl)
    | 8, _ => exact (by rw [show fat 8 = 8 from rfl]; simp [hs]; rfl)
    | 9, _ => exact (by rw [show fat 9 = 9 from rfl]; simp [zero_get 9 (by decide)]; rfl)
    | 10, _ => exact (by rw [show fat 10 = 10 from rfl]; simp [zero_get 10 (by decide)]; rfl)
    | 11, _ => exact (by rw [show fat 11 = 11 from rfl]; simp [zero_get 11 (by decide)]; rfl)
    | 12, _ => exact (by rw [show fat 12 = 12 from rfl]; simp [zero_get 12 (by decide)]; rfl)
    | 13, _ => exact (by rw [show fat 13 = 13 from rfl]; simp [zero_get 13 (by decide)]; rfl)
    | 14, _ => exact (by rw [show fat 14 = 14 from rfl]; simp [zero_get 14 (by decide)]; rfl)
    | 15, _ => exact (by rw [show fat 15 = 1862 from rfl]; simp [hs]; rfl)
    | 16, _ => exact (by rw [show fat 16 = 1863 from rfl]; simp [zero_get 1863 (by decide)]; rfl)
    | 17, _ => exact (by rw [show fat 17 = 1864 from rfl]; simp [zero_get 1864 (by decide)]; rfl)
    | 18, _ => exact (by rw [show fat 18 = 1865 from rfl]; simp [zero_get 1865 (by decide)]; rfl)
    | k + 19, hk => omega
  · have := sg_lt ha
    unfold madeDec
    rw [Array.getElem?_setIfInBounds_ne (by omega), Array.getElem?_setIfInBounds_ne (by omega), Array.getElem?_setIfInBounds_ne (by omega), Array.getElem?_setIfInBounds_ne (by omega), zero_low _ this]
    simp [List.getD, show a < 1847 + K.nl by omega]
end Go.Proofs.YtoencondpbkomaaGreatDoor
