/-
  LqProp, LqRp, LqDict, LqRes, ZeroKit, LwZero, LwNew, LwClose, LqClose, ZqUp, ZqUp2, ZqUnp, ZqAwk, ZqOpen, ZrNum: put together.
-/
import Derived.Test.YtiolfjhddbiglaaGreatDoorU01
import Derived.Test.YtiolfjhddbiglaaGreatDoorU07
import Derived.Test.YtiolfjhddbiglaaGreatDoorRows
import Derived.Tactics
import Derived.Tactics2
import Derived.LoopTactic
import Derived.Test.YtiolfjhddbiglaaGreatDoorU08
import Derived.Test.YtiolfjhddbiglaaGreatDoorU03
import Derived.Laws.MakeOwn
import Derived.Deep.AppendLies
import Derived.Laws.Tables
import Derived.Test.YtiolfjhddbiglaaGreatDoorU04
import Derived.Defers
import Derived.BigQuiet
import Derived.Deep.RegionLaw
import Derived.Deep.Cut
import Derived.Laws.BytesArg
import Derived.Lib.SmallJoins
import Derived.Laws.IdiomArrays
import Derived.Lib.LaidTab
import Derived.FnData
set_option linter.unusedVariables false
set_option linter.unusedSimpArgs false
/-
  The property of LZMA2.
-/
namespace Go.Proofs.YtiolfjhddbiglaaGreatDoor
open Go.RowKit

def dictN (p : Nat) : Nat := if p > 40 then 0 else if p = 40 then 4294967295 else (2 + p % 2) * 2 ^ (p / 2 + 11)
def dictC (p : Nat) : Int := if p > 40 then 11 else 0
theorem dict_all : ∀ p : Fin 41, 4096 ≤ dictN p.val ∧ dictN p.val < 4294967296 ∧ (p.val < 40 → dictN (p.val) < dictN (p.val + 1)) := by decide +kernel
theorem dict_le {p : Nat} (h : p ≤ 40) : 4096 ≤ dictN p ∧ dictN p < 4294967296 := ⟨(dict_all ⟨p, by omega⟩).1, (dict_all ⟨p, by omega⟩).2.1⟩

set_option maxRecDepth 100000 in
set_option maxHeartbeats 1000000 in
theorem qdict_any {p : Nat} (hp : p < 256) (w : World) :
    Calls Tryz.prog 37 #[.int .u8 (p : Int)] w fun e w' => e = .returned (.tuple #[.int .i64 (dictN p : Int), .int .i64 (dictC p)]) ∧ w = w' := by
  unfold dictN dictC
  by_cases h1 : p > 40
  · have c1 : (p : Int) > 40 := by omega
    rw [if_pos h1, if_pos h1]
    clear h1
    go_enter Tryz.func37, Tryz.ntmps37
    go_wp2_with fail
    go_ret2
    exact ⟨rfl, rfl⟩
  · have c1 : ¬ (p : Int) > 40 := by omega
    rw [if_neg h1, if_neg h1]
    by_cases h2 : p = 40
    · subst h2
      rw [if_pos rfl]
      clear h1 c1
      go_enter Tryz.func37, Tryz.ntmps37
      go_wp2_with fail
      go_ret2
      exact ⟨rfl, rfl⟩
    · rw [if_neg h2]
      have c2 : ((p : Int) == 40) = false := by simp; omega
      have hb : (2 : Nat) ^ (p / 2 + 11) ≤ 2 ^ 31 := Nat.pow_le_pow_right (by decide) (by omega)
      have hc : ((2 : Int) ^ (p / 2 + 11)) = ((2 ^ (p / 2 + 11) : Nat) : Int) := by simp
      have hx : (2 + (p : Int) % 2) * 2 ^ (p / 2 + 11) = (((2 + p % 2) * 2 ^ (p / 2 + 11) : Nat) : Int) := by rw [hc]; simp
      have hs : (2 + p % 2) * 2 ^ (p / 2 + 11) ≤ 3 * 2 ^ 31 := Nat.mul_le_mul (by omega) hb
      have e1 : wrap64 ((2 + (p : Int) % 2) * 2 ^ (p / 2 + 11)) = (2 + (p : Int) % 2) * 2 ^ (p / 2 + 11) := by
        refine IntWalk.wrap64_in _ ?_
        rw [hx]
        omega
      clear hx hs hb hc
      go_enter Tryz.func37, Tryz.ntmps37
      go_wp2_with fail
      go_ret2
      exact ⟨by simp, rfl⟩

/-- the least property whose dictionary is great enough, or none -/
def IsProp (dict : Int) (r : Nat) (c : Int) : Prop := (c = 0 ∧ r ≤ 40 ∧ dict ≤ (dictN r : Int) ∧ ∀ j, j < r → (dictN j : Int) < dict) ∨ (c = 11 ∧ r = 0 ∧ ∀ j, j ≤ 40 → (dictN j : Int) < dict)
def PropPost (dict : Int) (w : World) (e : Ending) (w' : World) : Prop := ∃ r c, e = .returned (.tuple #[.int .u8 ((r : Nat) : Int), .int .i64 c]) ∧ IsProp dict r c ∧ Below w.heap.size w w'

end Go.Proofs.YtiolfjhddbiglaaGreatDoor

/-
  The property of LZMA2: the reference.
-/
namespace Go.Proofs.YtiolfjhddbiglaaGreatDoor
open Go.RowKit

set_option maxRecDepth 100000 in
set_option maxHeartbeats 2000000 in
theorem rdict_any {p : Nat} (hp : p < 256) (w : World) :
    Calls Tryz.prog 23 #[.int .u8 (p : Int)] w fun e w' => e = .returned (.tuple #[.int .i64 (dictN p : Int), .int .i64 (dictC p)]) ∧ Below w.heap.size w w' := by
  unfold dictN dictC
  by_cases h1 : p > 40
  · have c1 : (p : Int) > 40 := by omega
    rw [if_pos h1, if_pos h1]
    clear h1
    go_enter Tryz.func23, Tryz.ntmps23
    go_wp2_with fail
    go_ret2
    exact ⟨rfl, Below.refl _ _⟩
  · have c1 : ¬ (p : Int) > 40 := by omega
    rw [if_neg h1, if_neg h1]
    by_cases h2 : p = 40
    · subst h2
      rw [if_pos rfl]
      clear h1 c1
      go_enter Tryz.func23, Tryz.ntmps23
      go_wp2_with fail
      go_ret2
      exact ⟨rfl, Below.refl _ _⟩
    · rw [if_neg h2]
      have c2 : ((p : Int) == 40) = false := by simp; omega
      go_enter Tryz.func23, Tryz.ntmps23
      go_wp2_with fail
      go_loopw [4, 5] (fun v u wr => ∃ i : Nat, v = .int .i64 (((2 + p % 2) * 2 ^ i : Nat) : Int) ∧ u = .int .i64 (i : Int) ∧ i ≤ p / 2 + 11 ∧ Below w.heap.size w wr) (fun v u wr => p / 2 + 11 - (match u with | .int _ n => n.toNat | _ => 0))
      case atStart => exact ⟨0, by simp, rfl, Nat.zero_le _, Below.refl _ _⟩
      case round =>
        obtain ⟨i, rfl, rfl, hi, hb⟩ := hrel
        have HI := Lib.hid (And.intro hi hb)
        have hm : p % 2 < 2 := Nat.mod_lt _ (by decide)
        have hP : (2 : Nat) ^ i ≤ 2 ^ 31 := Nat.pow_le_pow_right (by decide) (by omega)
        have hs : (2 + p % 2) * 2 ^ i ≤ 3 * 2 ^ 31 := Nat.mul_le_mul (by omega) hP
        have e3 : IntKind.i64.wrap ((p : Int) / 2 + 11) = (p : Int) / 2 + 11 := IntWalk.i64_in _ (by omega)
        by_cases hlt : i < p / 2 + 11
        · have c3 : (i : Int) < (p : Int) / 2 + 11 := by omega
          have hstep : (2 + p % 2) * 2 ^ i * 2 = (2 + p % 2) * 2 ^ (i + 1) := by rw [Nat.pow_succ, Nat.mul_assoc]
          obtain ⟨V, hV⟩ : ∃ V, V = (2 + p % 2) * 2 ^ i := ⟨_, rfl⟩
          rw [← hV] at hstep hs ⊢
          have HV := Lib.hid hstep
          have e1 : wrap64 ((V : Int) * 2) = ((V * 2 : Nat) : Int) := (IntWalk.wrap64_in _ (by omega)).trans (by omega)
          have e2 : wrap64 ((i : Int) + 1) = ((i + 1 : Nat) : Int) := (IntWalk.wrap64_in _ (by omega)).trans (by omega)
          clear hi hb hm hP hs hstep hV
          go_wp2_with fail
          go_roundw
          case rel =>
            refine ⟨i + 1, ?_, ?_, by omega, HI.out.2⟩
            · rw [← HV.out]; simp [e1]
            · simp [e2]
          case measure =>
            simp [e2]
            omega
        · have c3 : ¬ (i : Int) < (p : Int) / 2 + 11 := by omega
          obtain rfl : i = p / 2 + 11 := by omega
          clear hi hb hm hP hs
          go_wp2_with fail
          go_ret2
          exact ⟨rfl, HI.out.2⟩

end Go.Proofs.YtiolfjhddbiglaaGreatDoor



/-
  The laws' great quota; what an Unpack answers under it; a row that grows.
-/
namespace Go.Proofs.YtiolfjhddbiglaaGreatDoor
open Go.RowKit

def muchQ : Quo := ⟨1099511627776, 1099511627776, 1099511627776, 1099511627776, 1099511627776⟩
theorem much_lit : Lit64 muchQ := by constructor <;> dsimp only [muchQ] <;> omega
theorem much_up : muchQ.up = muchQ := by simp [Quo.up, muchQ]; omega
theorem much_fine : Fine muchQ Tel.zero := much_up ▸ Fine.new much_lit
def codeU : Option (List UInt8) → Int
  | none => 12
  | some _ => 0
/-- what is answered, the meter's memory given back -/
def UpPost (w : World) (m : Nat) (o : Option (List UInt8)) (cd : Int) (x : Ending) (w' : World) : Prop :=
  (∃ t, MeterAt w' 83 m muchQ t ∧ t.mem = 0) ∧ Only (fun i => i = m) w w' ∧ ∃ A c, x = .returned (.tuple #[.slice A (o.getD []).length c, .int .i64 cd]) ∧ Sl w' A (o.getD []).length (bv (o.getD []))
set_option maxHeartbeats 2000000 in
theorem much_any (w : World) : Calls Tryz.prog 8 #[] w fun e w' => ∃ g, e = .returned (.pointer (some ⟨g, 0, none⟩)) ∧ MeterAt w' 83 g muchQ Tel.zero ∧ w.heap.size ≤ g ∧ Below w.heap.size w w' := by
  have K := mnew_any muchQ w
  rw [much_up] at K
  have K : Calls Tryz.prog 16 #[.agg #[.int .i64 1099511627776, .int .i64 1099511627776, .int .i64 1099511627776, .int .i64 1099511627776, .int .i64 1099511627776]] w fun e w' => ∃ g, e = .returned (.pointer (some ⟨g, 0, none⟩)) ∧ MeterAt w' 83 g muchQ Tel.zero ∧ w.heap.size ≤ g ∧ Below w.heap.size w w' := K
  have K := Lib.hid K
  go_enter Tryz.func8, Tryz.ntmps8
  go_wp2_with fail
  refine K.out.mono ?_
  rintro e w1 ⟨g, rfl, hM, hg, hb⟩
  have HE := Lib.hid (And.intro hM (And.intro hg hb))
  clear hM hg hb K
  go_wp2_with fail
  go_ret
  exact ⟨g, rfl, HE.out.1, HE.out.2.1, HE.out.2.2⟩
section
variable {P : Program} (w : World)
theorem wpList_appO {ops : Array Oper} {rest : List Oper} {o : Oper} {a : Act} {Q : Exit → Act → World → Prop} (hgd : o.guard = none) (s x : Operand) (t : TypeId)
    (ho : o.op = .call { callee := .builtin .append, args := #[s, x], argTypes := #[t, t] })
    (base : Nat) (e : TypeId) (i : TypeInfo) (z : Value) (bytes : Nat) (ht : P.underlying t = some (.slice e)) (hi : P.info? e = some i) (hz : i.zero = some z)
    (hsize : i.size = 1) (hby : i.bytes = bytes) (hzs : z.cells.size = 1)
    (v : Value) (n : Nat) (xs : List Value) (hs : a.eval s = v) (hown : w.ownsRow base e 1 v n xs)
    (A : Option Addr) (m c : Nat) (news : List Value) (hx : a.eval x = .slice A m c) (hr : Sl w A m news) (h1 : ∀ u ∈ news, u.oneCell' = true)
    (hbytes : (n + m) * bytes ≤ 140737488355328) (hb0 : 0 < bytes) (hbase : base ≤ w.heap.size)
    (h : ∀ A' c' w', w'.ownsRow base e 1 (.slice A' (n + m) c') (n + m) (xs ++ news) → w.grownBy w' v.ownBlock → ((Value.slice A' (n + m) c').ownBlock = v.ownBlock ∨ (Value.slice A' (n + m) c').ownBlock = some w.heap.size) → wpList P ops Q rest (a.put o.dst (.slice A' (n + m) c')) w') : wpList P ops Q (o :: rest) a w :=
  wpList_plain hgd fun K hK => by
    obtain ⟨v', w', hrun, h2, h3, h4⟩ := run_app (P := P) w base t o.type e i z bytes ht hi hz hsize hby hzs v n xs hown A m c news hr h1 hbytes hb0 hbase
    obtain ⟨A', c', rfl, h2⟩ := own_form h2
    unfold Oper.wp execOp
    simp only [ho, resolve, invoke, builtin, Sem.run_bind, Sem.run_pure, Result.andThen_ok, List.map_toArray, List.map_cons, List.map_nil, hs, hx, hrun]
    exact hK _ _ (h A' c' w' h2 h3 h4)
end

/-- how long a slice is -/
def slLen (v : Value) : Nat := match v with | .slice _ n _ => n | _ => 0
theorem much_mem {a b : Int} (ha : 0 ≤ a) (ha1 : a ≤ 1000000) (hb : 0 ≤ b) (hb1 : b ≤ 1000000) :
    fits Tel.zero.code Tel.zero.mem muchQ.mem a ∧ fits (Tel.zero.doMem muchQ a).code (Tel.zero.doMem muchQ a).mem muchQ.mem b ∧ (((((Tel.zero.doMem muchQ a).doMem muchQ b).doFree a).doFree b).mem = 0) := by
  have e0 : Tel.zero.mem = 0 := rfl
  have e1 : Tel.zero.code = 0 := rfl
  have e2 : muchQ.mem = 1099511627776 := rfl
  have f1 : (Tel.zero.doMem muchQ a).code = 0 := by
    show codeOf Tel.zero.code Tel.zero.mem muchQ.mem a 101 = 0
    rw [e0, e1, e2]
    unfold codeOf
    split <;> omega
  have f2 : (Tel.zero.doMem muchQ a).mem = a := by
    show wasOf Tel.zero.code Tel.zero.mem muchQ.mem a = a
    rw [e0, e1, e2]
    unfold wasOf
    split <;> omega
  have f3 : ((Tel.zero.doMem muchQ a).doMem muchQ b).mem = a + b := by
    show wasOf (Tel.zero.doMem muchQ a).code (Tel.zero.doMem muchQ a).mem muchQ.mem b = a + b
    rw [f1, f2, e2]
    unfold wasOf
    split <;> omega
  refine ⟨?_, ?_, ?_⟩
  · rw [e0, e1, e2]
    exact ⟨rfl, by omega⟩
  · rw [f1, f2, e2]
    exact ⟨rfl, by omega⟩
  · show max ((max (((Tel.zero.doMem muchQ a).doMem muchQ b).mem - max a 0) 0) - max b 0) 0 = 0
    rw [f3]
    omega

theorem own_at {w : World} {base : Nat} {e : TypeId} {v : Value} {n : Nat} {xs : List Value} (h : w.ownsRow base e 1 v n xs) {b : Nat} (hb : v.ownBlock = some b) : base ≤ b ∧ b < w.heap.size := by
  rcases h.2 with ⟨rfl, _⟩ | ⟨g, cap, cur, rfl, h1, h2, _⟩
  · cases hb
  · injection hb with hb
    subst hb
    exact ⟨h1, (Array.getElem?_eq_some_iff.1 h2).1⟩
theorem own_onlyV {w w' : World} {S : Nat → Prop} {base : Nat} {e : TypeId} {v : Value} {n : Nat} {xs : List Value} (h : w.ownsRow base e 1 v n xs) (hO : Only S w w') (hS : ∀ b, v.ownBlock = some b → ¬ S b) : w'.ownsRow base e 1 v n xs := by
  refine ⟨h.1, ?_⟩
  rcases h.2 with hn | ⟨g, cap, cur, rfl, hb, hgg, rest⟩
  · exact .inl hn
  · refine .inr ⟨g, cap, cur, rfl, hb, ?_, rest⟩
    rw [hO.block g (Array.getElem?_eq_some_iff.1 hgg).1 (hS g rfl)]
    exact hgg

end Go.Proofs.YtiolfjhddbiglaaGreatDoor

/-
  Zeros of great structs, cell by cell.
-/
namespace Go.Proofs.YtiolfjhddbiglaaGreatDoor
open Go.RowKit

/-- a type's zero, cell by cell; it is never written out -/
def zOf (P : Program) (t : TypeId) : Array Value := match P.info? t with
  | some i => (match i.zero with | some v => v.cells | none => #[])
  | none => #[]
/-- kinds of zeros -/
def vk : Nat → Value
  | 0 => .int .u16 0
  | 1 => .int .i64 0
  | 2 => .int .u32 0
  | 3 => .nilIface
  | 4 => .pointer none
  | 5 => .slice none 0 0
  | _ => .bool false
def isz (k : Nat) (v : Value) : Bool := match k, v with
  | 0, .int .u16 x => x == 0
  | 1, .int .i64 x => x == 0
  | 2, .int .u32 x => x == 0
  | 3, .nilIface => true
  | 4, .pointer none => true
  | 5, .slice none 0 0 => true
  | 6, .bool false => true
  | _, _ => false
theorem isz_sound (k : Nat) (v : Value) (h : isz k v = true) : v = vk k := by
  unfold isz at h
  split at h
  all_goals first
    | (cases h; done)
    | rfl
    | (have := eq_of_beq h; subst this; rfl)
end Go.Proofs.YtiolfjhddbiglaaGreatDoor

/-
  The program's decoder of LZMA, as it is built.
-/
namespace Go.Proofs.YtiolfjhddbiglaaGreatDoor
open Go.RowKit

def zk (i : Nat) : Nat := if 1862 < i then (if i = 1863 then 1 else 6) else if i = 1862 then 5 else if 15 ≤ i then 0 else if 11 ≤ i then 2 else if i = 4 then 3 else if i = 5 then 4 else if i = 6 then 4 else if i = 7 then 4 else 1
def chk : Nat → List Value → Bool
  | i, [] => i == 1866
  | i, v :: l => isz (zk i) v && chk (i + 1) l
theorem chk_sound : ∀ (l : List Value) (i : Nat), chk i l = true → i + l.length = 1866 ∧ ∀ j, j < l.length → l[j]? = some (vk (zk (i + j)))
  | [], i, h => ⟨by have := eq_of_beq h; simpa using this, fun j hj => by simp at hj⟩
  | v :: l, i, h => by
    unfold chk at h
    obtain ⟨h1, h2⟩ := Bool.and_eq_true_iff.1 h
    obtain ⟨g1, g2⟩ := chk_sound l (i + 1) h2
    refine ⟨by simp only [List.length_cons]; omega, fun j hj => ?_⟩
    cases j with
    | zero => simp [isz_sound _ _ h1]
    | succ j =>
      simp only [List.length_cons] at hj
      rw [List.getElem?_cons_succ, g2 j (by omega)]
      congr 3
      omega
set_option maxRecDepth 1000000 in
theorem zero_chk : chk 0 (zOf Tryz.prog 150).toList = true := by kernel_rfl
def madeDec (Z : Array Value) (x y : Option Addr) (r : Int) (A : Option Addr) (n c : Nat) : Array Value :=
  (((Z.setIfInBounds 6 (.pointer x)).setIfInBounds 7 (.pointer y)).setIfInBounds 8 (.int .i64 r)).setIfInBounds 1862 (.slice A n c)
theorem zero_size : (zOf Tryz.prog 150).size = 1866 := by
  have := (chk_sound _ _ zero_chk).1
  rw [Array.length_toList] at this
  omega
theorem zero_get (i : Nat) (h : i < 1866) : (zOf Tryz.prog 150)[i]? = some (vk (zk i)) := by
  have := (chk_sound _ _ zero_chk).2 i (by rw [Array.length_toList, zero_size]; exact h)
  rw [Nat.zero_add, Array.getElem?_toList] at this
  exact this
theorem zero_low (a : Nat) (h : a < 1847) : (zOf Tryz.prog 150)[15 + a]? = some (.int .u16 0) := by
  rw [zero_get _ (by omega)]
  unfold zk
  rw [if_neg (by omega), if_neg (by omega), if_pos (by omega)]
  rfl
def decPlaces : List (Nat × Nat) := [(0, 4), (4, 1), (5, 1), (6, 1), (7, 1), (8, 1), (9, 1), (10, 1), (11, 4), (15, 1847), (1862, 1), (1863, 1), (1864, 1), (1865, 1)]
theorem made_at {K : Kon} {w : World} (hB : Blk w K.g 150 (madeDec (zOf Tryz.prog 150) (some ⟨K.wg, 0, none⟩) (some ⟨K.m, 0, none⟩) K.room (some ⟨K.lb, 0, none⟩) K.nl K.nl)) : LzAt w K.g (unFs K 0 0 0 0) (List.replicate (1847 + K.nl) 0) := by
  refine ⟨_, hB, by unfold madeDec; simp [zero_size], rfl, fun k hk => ?_, fun a ha => ?_⟩
  · have hs := zero_size
    unfold madeDec
    match k, hk with
    | 0, _ => exact (by rw [show fat 0 = 0 from rfl]; simp [zero_get 0 (by decide)]; rfl)
    | 1, _ => exact (by rw [show fat 1 = 1 from rfl]; simp [zero_get 1 (by decide)]; rfl)
    | 2, _ => exact (by rw [show fat 2 = 2 from rfl]; simp [zero_get 2 (by decide)]; rfl)
    | 3, _ => exact (by rw [show fat 3 = 3 from rfl]; simp [zero_get 3 (by decide)]; rfl)
    | 4, _ => exact (by rw [show fat 4 = 4 from rfl]; simp [zero_get 4 (by decide)]; rfl)
    | 5, _ => exact (by rw [show fat 5 = 5 from rfl]; simp [zero_get 5 (by decide)]; rfl)
    | 6, _ => exact (by rw [show fat 6 = 6 from rfl]; simp [hs]; rfl)
    | 7, _ => exact (by rw [show fat 7 = 7 from rfl]; simp [hs]; rfl)
    | 8, _ => exact (by rw [show fat 8 = 8 from rfl]; simp [hs]; rfl)
    | 9, _ => exact (by rw [show fat 9 = 9 from rfl]; simp [zero_get 9 (by decide)]; rfl)
    | 10, _ => exact (by rw [show fat 10 = 10 from rfl]; simp [zero_get 10 (by decide)]; rfl)
    | 11, _ => exact (by rw [show fat 11 = 11 from rfl]; simp [zero_get 11 (by decide)]; rfl)
    | 12, _ => exact (by rw [show fat 12 = 12 from rfl]; simp [zero_get 12 (by decide)]; rfl)
    | 13, _ => exact (by rw [show fat 13 = 13 from rfl]; simp [zero_get 13 (by decide)]; rfl)
    | 14, _ => exact (by rw [show fat 14 = 14 from rfl]; simp [zero_get 14 (by decide)]; rfl)
    | 15, _ => exact (by rw [show fat 15 = 1862 from rfl]; simp [hs]; rfl)
    | 16, _ => exact (by rw [show fat 16 = 1863 from rfl]; simp [zero_get 1863 (by decide)]; rfl)
    | 17, _ => exact (by rw [show fat 17 = 1864 from rfl]; simp [zero_get 1864 (by decide)]; rfl)
    | 18, _ => exact (by rw [show fat 18 = 1865 from rfl]; simp [zero_get 1865 (by decide)]; rfl)
    | k + 19, hk => omega
  · have := sg_lt ha
    unfold madeDec
    rw [Array.getElem?_setIfInBounds_ne (by omega), Array.getElem?_setIfInBounds_ne (by omega), Array.getElem?_setIfInBounds_ne (by omega), Array.getElem?_setIfInBounds_ne (by omega), zero_low _ this]
    simp [List.getD, show a < 1847 + K.nl by omega]
end Go.Proofs.YtiolfjhddbiglaaGreatDoor

/-
  The program's decoder of LZMA: a new one.
-/
namespace Go.Proofs.YtiolfjhddbiglaaGreatDoor
open Go.RowKit

/-- A decoder that has begun nothing. -/
structure Un (K : Kon) (w : World) (Gw : Nat → Prop) (lc lp pb dict : Nat) : Prop where
  row : Rk K (unFs K lc lp pb dict) w (List.replicate (1847 + K.nl) 1024)
  win : Pwin w K.wg Gw K.m ⟨K.sz, [], false⟩
  gn : K.g ≠ K.lb
  mg : K.m ≠ K.g
  mb : K.m ≠ K.lb
  wd : ∀ i, Gw i → i ≠ K.g ∧ i ≠ K.lb ∧ i ≠ K.m ∧ i < w.heap.size
  nc : K.nc = K.nl
  sd : K.sd = (dict : Int)
def NewPost (w : World) (m : Nat) (q : Quo) (t : Tel) (lc lp pb dict : Nat) (size : Int) (e : Ending) (w' : World) : Prop :=
  ∃ (K : Kon) (Gw : Nat → Prop), K.m = m ∧ K.room = 2 * (probsN lc lp : Int) ∧ K.sz = (max (min (dict : Int) size) 1).toNat ∧ K.nl = 768 * 2 ^ (lc + lp) ∧ e = .returned (.tuple #[.pointer (some ⟨K.g, 0, none⟩), .int .i64 0]) ∧
    Un K w' Gw lc lp pb dict ∧ MeterAt w' 83 m q ((t.doMem q (max (min (dict : Int) size) 1)).doMem q (2 * (probsN lc lp : Int))) ∧ (w.heap.size ≤ K.g ∧ w.heap.size ≤ K.lb ∧ ∀ i, Gw i → w.heap.size ≤ i) ∧ Only (fun i => i = m) w w'

set_option maxRecDepth 100000 in
set_option maxHeartbeats 2000000 in
theorem pprobs_any {lc lp pb dict : Nat} (h : SetOk lc lp pb dict) (w : World) : Calls Tryz.prog 65 #[.agg #[.int .i64 (lc : Int), .int .i64 (lp : Int), .int .i64 (pb : Int), .int .i64 (dict : Int)]] w fun e w' => e = .returned (.int .i64 (probsN lc lp : Int)) ∧ Below w.heap.size w w' := by
  obtain ⟨w1, hw1⟩ : ∃ w1, w1 = w.alloc (.cells #[.int .i64 (lc : Int), .int .i64 (lp : Int), .int .i64 (pb : Int), .int .i64 (dict : Int)] 40) := ⟨_, rfl⟩
  have hb1 : Below w.heap.size w w1 := by rw [hw1]; exact (Below.refl _ _).alloc (Nat.le_refl _) _
  have HBk : Blk w1 w.heap.size 40 #[.int .i64 (lc : Int), .int .i64 (lp : Int), .int .i64 (pb : Int), .int .i64 (dict : Int)] := by rw [hw1]; exact Blk.fresh w _ _
  have KM := pmay_any (lc : Int) (lp : Int) (pb : Int) (dict : Int) w1
  rw [setOk_may h] at KM
  have KM := Lib.hid KM
  have KL := fun w => plits_any (lc := lc) (lp := lp) (pb : Int) (dict : Int) (by have := h.1; have := h.2.1; omega) w
  have hp := (probsN_is h).2.1
  obtain ⟨y, hy⟩ : ∃ y, y = 768 * 2 ^ (lc + lp) := ⟨_, rfl⟩
  have hpn : probsN lc lp = 1847 + y := by unfold probsN; rw [hy]
  rw [← hy] at KL
  rw [hpn] at hp ⊢
  have KL := Lib.hid KL
  have e1 : IntKind.i64.wrap (1847 + (y : Int)) = ((1847 + y : Nat) : Int) := by rw [show 1847 + (y : Int) = ((1847 + y : Nat) : Int) by omega]; exact IntWalk.i64_in _ (by omega)
  obtain ⟨r, hr⟩ : ∃ r, r = 1847 + y := ⟨_, rfl⟩
  rw [← hr] at e1 ⊢
  have c0 : w1.cell? ⟨w.heap.size, 0, none⟩ = some (.int .i64 (lc : Int)) := HBk.cell 0
  have c1 : w1.cell? ⟨w.heap.size, 1, none⟩ = some (.int .i64 (lp : Int)) := HBk.cell 1
  have c2 : w1.cell? ⟨w.heap.size, 2, none⟩ = some (.int .i64 (pb : Int)) := HBk.cell 2
  have c3 : w1.cell? ⟨w.heap.size, 3, none⟩ = some (.int .i64 (dict : Int)) := HBk.cell 3
  have HW1 := Lib.hid hw1
  have HB1 := Lib.hid hb1
  have HBK := Lib.hid HBk
  clear hw1 hb1 HBk h hp hy hpn hr
  go_enter Tryz.func65, Tryz.ntmps65
  go_upto_region 1 with fail
  rw [← HW1.out]
  clear HW1
  go_wp2_with fail
  refine KM.out.mono ?_
  rintro e w2 ⟨rfl, hb2⟩
  have hk2 : Blk w2 w.heap.size 40 #[.int .i64 (lc : Int), .int .i64 (lp : Int), .int .i64 (pb : Int), .int .i64 (dict : Int)] := HBK.out.below hb2
  have d0 : w2.cell? ⟨w.heap.size, 0, none⟩ = some (.int .i64 (lc : Int)) := hk2.cell 0
  have d1 : w2.cell? ⟨w.heap.size, 1, none⟩ = some (.int .i64 (lp : Int)) := hk2.cell 1
  have d2 : w2.cell? ⟨w.heap.size, 2, none⟩ = some (.int .i64 (pb : Int)) := hk2.cell 2
  have d3 : w2.cell? ⟨w.heap.size, 3, none⟩ = some (.int .i64 (dict : Int)) := hk2.cell 3
  have HB2 := Lib.hid (HB1.out.trans ⟨hb2.os, hb2.tape, hb2.output, hb2.size, fun i hi => hb2.block i (Nat.lt_of_lt_of_le hi HB1.out.size)⟩)
  clear hb2 hk2 KM c0 c1 c2 c3 HB1
  go_wp2_with fail
  refine (KL.out _).mono ?_
  rintro e w3 ⟨rfl, hb3⟩
  have HB3 := Lib.hid (HB2.out.trans ⟨hb3.os, hb3.tape, hb3.output, hb3.size, fun i hi => hb3.block i (Nat.lt_of_lt_of_le hi HB2.out.size)⟩)
  clear hb3 KL d0 d1 d2 d3
  go_wp2_with fail
  go_ret
  exact ⟨rfl, HB3.out⟩

set_option maxRecDepth 1000000 in
theorem zeroCells_chk : chk 0 Tryz.zeroCells150.toList = true := by kernel_rfl
theorem zero_link : Tryz.zeroCells150 = zOf Tryz.prog 150 := by
  have hs : Tryz.zeroCells150.size = 1866 := by
    have := (chk_sound _ _ zeroCells_chk).1
    rw [Array.length_toList] at this
    omega
  have hg : ∀ i, i < 1866 → Tryz.zeroCells150[i]? = some (vk (zk i)) := by
    intro i h
    have := (chk_sound _ _ zeroCells_chk).2 i (by rw [Array.length_toList, hs]; exact h)
    rw [Nat.zero_add, Array.getElem?_toList] at this
    exact this
  apply Array.ext_getElem?
  intro i
  by_cases h : i < 1866
  · rw [hg i h, zero_get i h]
  · rw [Array.getElem?_eq_none (by omega), Array.getElem?_eq_none (by rw [zero_size]; omega)]

theorem made_row (w : World) (n : Nat) (h : n ≤ 1000000) : Row (w.alloc (.cells (madeCells #[Value.int .u16 0] n) 35)) w.heap.size (List.replicate n 0) n := by
  have hm := madeNums n
  have hl : (madeCells #[Value.int .u16 0] n).size = n := by
    have := congrArg List.length hm
    rw [Array.length_toList, pv_length, List.length_replicate] at this
    exact this
  unfold Row
  rw [List.length_replicate]
  refine ⟨by simp [pv_length], .inr ⟨w.heap.size, n, madeCells #[Value.int .u16 0] n, rfl, Nat.zero_le _, heap_alloc_new w _, Nat.le_refl _, by unfold maxLen; omega, by omega, ?_⟩⟩
  rw [Nat.mul_one, ← hm]
  exact List.take_of_length_le (by rw [Array.length_toList, hl]; exact Nat.le_refl _)

set_option maxRecDepth 100000 in
set_option maxHeartbeats 8000000 in
theorem lnew_any {w : World} {m lc lp pb dict : Nat} {q : Quo} {t : Tel} {size : Int} (h : SetOk lc lp pb dict) (h6 : lc + lp ≤ 6) (hM : MeterAt w 83 m q t) (hF : Fine q t) (h0 : -9223372036854775808 ≤ size) (h1 : size ≤ 1048576)
    (hf1 : fits t.code t.mem q.mem (max (min (dict : Int) size) 1)) (hf2 : fits (t.doMem q (max (min (dict : Int) size) 1)).code (t.doMem q (max (min (dict : Int) size) 1)).mem q.mem (2 * (probsN lc lp : Int))) :
    Calls Tryz.prog 38 #[.agg #[.int .i64 (lc : Int), .int .i64 (lp : Int), .int .i64 (pb : Int), .int .i64 (dict : Int)], .int .i64 size, .pointer (some ⟨m, 0, none⟩)] w (NewPost w m q t lc lp pb dict size) := by
  obtain ⟨i, hi, hz0, hz1, hz2⟩ := info_parts info_u16
  have hnlN := lits_small (k := lc + lp) (by omega)
  have hnl6 : 768 * 2 ^ (lc + lp) ≤ 1000000 := Nat.le_trans (Nat.mul_le_mul_left 768 (Nat.pow_le_pow_right (by decide) h6)) (by decide)
  have hpn := (probsN_is h).2.1
  have hprob : probsN lc lp = 1847 + 768 * 2 ^ (lc + lp) := rfl
  obtain ⟨nl, hnl⟩ : ∃ nl, nl = 768 * 2 ^ (lc + lp) := ⟨_, rfl⟩
  obtain ⟨w1, hw1⟩ : ∃ w1, w1 = w.alloc (.cells #[.int .i64 (lc : Int), .int .i64 (lp : Int), .int .i64 (pb : Int), .int .i64 (dict : Int)] 40) := ⟨_, rfl⟩
  have hO1 : Only (fun i => i = m) w w1 := by rw [hw1]; exact (Only.refl _ w).alloc _
  have HBk : Blk w1 w.heap.size 40 #[.int .i64 (lc : Int), .int .i64 (lp : Int), .int .i64 (pb : Int), .int .i64 (dict : Int)] := by rw [hw1]; exact Blk.fresh w _ _
  have hM1 : MeterAt w1 83 m q t := by rw [hw1]; exact hM.alloc _
  have hmB : m < w.heap.size := hM.lt
  have KM := pmay_any (lc : Int) (lp : Int) (pb : Int) (dict : Int) w1
  rw [setOk_may h] at KM
  have KM := Lib.hid KM
  have KL := fun w => plits_any (lc := lc) (lp := lp) (pb : Int) (dict : Int) (by omega) w
  rw [← hnl] at KL hnl6 hprob
  have KL := Lib.hid KL
  have KP := Lib.hid (fun w => pprobs_any h w)
  obtain ⟨n, hn⟩ : ∃ n, n = min (dict : Int) size := ⟨_, rfl⟩
  rw [← hn] at hf1 hf2
  have hd32 := h.2.2.2
  have hn1 : n ≤ 1048576 := by omega
  have hn0 : -9223372036854775808 ≤ n := by omega
  have HW1 := Lib.hid hw1
  have HO1 := Lib.hid hO1
  have HBK := Lib.hid HBk
  have HM1 := Lib.hid hM1
  have HH := Lib.hid (And.intro h (And.intro hF (And.intro hf1 (And.intro hf2 (And.intro hn (And.intro hnl hnl6))))))
  have HNB := Lib.hid (And.intro hn0 (And.intro hn1 hmB))
  obtain ⟨P, hP⟩ : ∃ P, P = probsN lc lp := ⟨_, rfl⟩
  rw [← hP] at KP
  have e1 : IntKind.i64.wrap (2 * (P : Int)) = 2 * (P : Int) := IntWalk.i64_in _ (by omega)
  have HP := Lib.hid hP
  have c0 : w1.cell? ⟨w.heap.size, 0, none⟩ = some (.int .i64 (lc : Int)) := HBk.cell 0
  have c1 : w1.cell? ⟨w.heap.size, 1, none⟩ = some (.int .i64 (lp : Int)) := HBk.cell 1
  have c2 : w1.cell? ⟨w.heap.size, 2, none⟩ = some (.int .i64 (pb : Int)) := HBk.cell 2
  have c3 : w1.cell? ⟨w.heap.size, 3, none⟩ = some (.int .i64 (dict : Int)) := HBk.cell 3
  have hmk : ∀ W : World, (Instr.makeSlice 62 (.int .i64 (nl : Int)) (.int .i64 (nl : Int))).run Tryz.prog W = .ok (.slice (some ⟨W.heap.size, 0, none⟩) nl nl) (W.alloc (.cells (madeCells #[Value.int .u16 0] nl) 35)) := by
    intro W
    have := run_make (P := Tryz.prog) W 62 35 i (.int .u16 0) Tryz.underlying62 hi hz0 .i64 .i64 (nl : Int) (nl : Int) (by omega) (Int.le_refl _) (by rw [hz2]; omega) (by omega)
    rw [hz1, Int.toNat_natCast, Nat.mul_one] at this
    exact this
  clear hw1 hO1 HBk hM1 h hF hf1 hf2 hn hnl hnl6 hn0 hn1 hmB hM h0 h1 hd32 hnlN hpn hprob hP hi hz0 hz1 hz2 h6
  go_enter Tryz.func38, Tryz.ntmps38
  go_upto_region 1 with fail
  rw [← HW1.out]
  clear HW1
  generalize hB : w.heap.size = B at *
  go_wp2_with fail
  refine KM.out.mono ?_
  rintro e w2 ⟨rfl, hb2⟩
  have hk2 := HBK.out.below hb2
  have d3 : w2.cell? ⟨B, 3, none⟩ = some (.int .i64 (dict : Int)) := hk2.cell 3
  have HK2 := Lib.hid hk2
  have HO2 := Lib.hid (HO1.out.then hb2)
  have HM2 := Lib.hid (HM1.out.below hb2)
  have KW := wnew7_any (n := n) HM2.out HH.out.2.1 HNB.out.1 HNB.out.2.1 HH.out.2.2.1
  have hnn : min (dict : Int) size = n := HH.out.2.2.2.2.1.symm
  have KW := Lib.hid KW
  clear hb2 hk2 KM c0 c1 c2 c3 HBK HM1 HO1
  go_wp2_with fail
  refine KW.out.mono ?_
  rintro e w3 ⟨g, G, rfl, hP3, hM3, hGn, hO3⟩
  have hBm : B ≠ m := by have := HNB.out.2.2; omega
  have hk3 := HK2.out.only hO3 hBm
  have d0 : w3.cell? ⟨B, 0, none⟩ = some (.int .i64 (lc : Int)) := hk3.cell 0
  have d1 : w3.cell? ⟨B, 1, none⟩ = some (.int .i64 (lp : Int)) := hk3.cell 1
  have d2 : w3.cell? ⟨B, 2, none⟩ = some (.int .i64 (pb : Int)) := hk3.cell 2
  have d3' : w3.cell? ⟨B, 3, none⟩ = some (.int .i64 (dict : Int)) := hk3.cell 3
  have HK3 := Lib.hid hk3
  have HO3 := Lib.hid (HO2.out.trans hO3)
  have HM3 := Lib.hid hM3
  have HW3 := Lib.hid hP3
  have HGN := Lib.hid (And.intro hGn hO3)
  clear hP3 hM3 hGn hO3 hk3 KW HK2 HM2 hnn d3
  go_wp2_with fail
  refine (KP.out w3).mono ?_
  rintro e w4 ⟨rfl, hb4⟩
  have hO4 : Only (fun _ => False) w3 w4 := Only.of_below hb4
  have HO4 := Lib.hid (HO3.out.then hb4)
  have HM4 := Lib.hid (HM3.out.below hb4)
  have HW4 := Lib.hid (HW3.out.only hO4 (fun _ _ h => h))
  have HK4 := Lib.hid (HK3.out.below hb4)
  have HG4 := Lib.hid (show ∀ i, G i → i < w4.heap.size from fun i hi => Nat.lt_of_lt_of_le (HW3.out.old hi) hb4.size)
  have KQ := mem_any HM4.out (HH.out.2.1.mem _) (2 * (P : Int))
  have hfit : decide (fits (t.doMem q (max n 1)).code (t.doMem q (max n 1)).mem q.mem (2 * (P : Int))) = true := by rw [HP.out]; exact decide_eq_true HH.out.2.2.2.1
  rw [hfit] at KQ
  have KQ := Lib.hid KQ
  clear hb4 hO4 HO3 HM3 HK3 KP d0 d1 d2 d3' hfit
  go_wp2_with fail
  refine KQ.out.mono ?_
  rintro e w5 ⟨rfl, hM5, hg5⟩
  have hO5 : Only (fun i => i = m) w4 w5 := Only.of_grown hg5 rfl
  have hk5 := HK4.out.only hO5 hBm
  have d0 : w5.cell? ⟨B, 0, none⟩ = some (.int .i64 (lc : Int)) := hk5.cell 0
  have d1 : w5.cell? ⟨B, 1, none⟩ = some (.int .i64 (lp : Int)) := hk5.cell 1
  have d2 : w5.cell? ⟨B, 2, none⟩ = some (.int .i64 (pb : Int)) := hk5.cell 2
  have d3 : w5.cell? ⟨B, 3, none⟩ = some (.int .i64 (dict : Int)) := hk5.cell 3
  have HK5 := Lib.hid hk5
  have HM5 := Lib.hid hM5
  have hGm : ∀ i, G i → i ≠ m := fun i hi => by
    have := HGN.out.1 i hi
    have := HO2.out.size
    have := HNB.out.2.2
    omega
  have HW5 := Lib.hid (HW4.out.only hO5 (fun i hi => hGm i hi))
  have HO5 := Lib.hid (HO4.out.trans hO5)
  have HG5 := Lib.hid (show ∀ i, G i → i < w5.heap.size from fun i hi => Nat.lt_of_lt_of_le (HG4.out i hi) hO5.size)
  have HGM := Lib.hid hGm
  clear hM5 hg5 hO5 hk5 hGm KQ HK4 HM4 HW4 HO4 HG4 HW3
  go_wp2_with fail
  refine (KL.out w5).mono ?_
  rintro e w6 ⟨rfl, hb6⟩
  have hO6 : Only (fun _ => False) w5 w6 := Only.of_below hb6
  have hk6 := HK5.out.below hb6
  have d0 : w6.cell? ⟨B, 0, none⟩ = some (.int .i64 (lc : Int)) := hk6.cell 0
  have d1 : w6.cell? ⟨B, 1, none⟩ = some (.int .i64 (lp : Int)) := hk6.cell 1
  have d2 : w6.cell? ⟨B, 2, none⟩ = some (.int .i64 (pb : Int)) := hk6.cell 2
  have d3 : w6.cell? ⟨B, 3, none⟩ = some (.int .i64 (dict : Int)) := hk6.cell 3
  have HM6 := Lib.hid (HM5.out.below hb6)
  have HW6 := Lib.hid (HW5.out.only hO6 (fun _ _ h => h))
  have HO6 := Lib.hid (HO5.out.then hb6)
  have HG6 := Lib.hid (show ∀ i, G i → i < w6.heap.size from fun i hi => Nat.lt_of_lt_of_le (HG5.out i hi) hb6.size)
  have HK6 := Lib.hid hk6
  clear hb6 hO6 hk6 HK5 HM5 HW5 HO5 HG5
  go_upto_region 11 with fail
  obtain ⟨lb, hlb⟩ : ∃ lb, lb = w6.heap.size := ⟨_, rfl⟩
  obtain ⟨cs, hcs⟩ : ∃ cs, cs = (((Tryz.zeroCells150.setIfInBounds 6 (Value.pointer (some ⟨g, 0, none⟩))).setIfInBounds 7 (Value.pointer (some ⟨m, 0, none⟩))).setIfInBounds 8 (Value.int .i64 (2 * (P : Int)))).setIfInBounds 1862 (Value.slice (some ⟨w6.heap.size, 0, none⟩) nl nl) := ⟨_, rfl⟩
  obtain ⟨w7, hw7⟩ : ∃ w7, w7 = w6.alloc (.cells (madeCells #[Value.int .u16 0] nl) 35) := ⟨_, rfl⟩
  have hs7 : w7.heap.size = lb + 1 := by rw [hw7, hlb]; simp
  obtain ⟨w8, hw8⟩ : ∃ w8, w8 = w7.alloc (.cells cs 150) := ⟨_, rfl⟩
  have hrow8 : Row w8 lb (List.replicate nl 0) nl := by
    have h1 := made_row w6 nl HH.out.2.2.2.2.2.2
    rw [← hw7, ← hlb] at h1
    rw [hw8]
    exact h1.only ((Only.refl (fun _ => False) w7).alloc _) (fun h => h)
  have hblk8 : Blk w8 (lb + 1) 150 cs := by
    rw [hw8, ← hs7]
    exact Blk.fresh w7 _ _
  have hO8 : Only (fun _ => False) w6 w8 := by rw [hw8, hw7]; exact ((Only.refl _ w6).alloc _).alloc _
  obtain ⟨K, hK⟩ : ∃ K : Kon, K = ⟨lb + 1, lb, nl, g, m, 0, ⟨0, fun _ _ _ => True, fun _ => False, fun _ => False⟩, [], 2 * (P : Int), (max n 1).toNat, nl, (dict : Int)⟩ := ⟨_, rfl⟩
  have kg : K.g = lb + 1 := by rw [hK]
  have kb : K.lb = lb := by rw [hK]
  have kn : K.nl = nl := by rw [hK]
  have km : K.m = m := by rw [hK]
  have kw : K.wg = g := by rw [hK]
  have kr : K.room = 2 * (P : Int) := by rw [hK]
  have kz : K.sz = (max n 1).toNat := by rw [hK]
  have kc : K.nc = nl := by rw [hK]
  have kd : K.sd = (dict : Int) := by rw [hK]
  have hmB6 : m < lb := by
    have h1 := HM6.out.lt
    omega
  have hGlb : ∀ i, G i → i < lb := fun i hi => by rw [hlb]; exact HG6.out i hi
  have hrk : Rk K (unFs K 0 0 0 0) w8 (List.replicate (1847 + K.nl) 0) := by
    refine ⟨?_, ?_, by simp⟩
    · refine made_at ?_
      rw [kg, kw, km, kr, kb, kn]
      rw [hcs, ← hlb, zero_link] at hblk8
      exact hblk8
    · have : (List.replicate (1847 + K.nl) 0).drop 1847 = List.replicate nl 0 := by rw [List.drop_replicate, kn]; congr 1; omega
      rw [this, kb, kc]
      exact ⟨[], by rw [List.append_nil]; exact hrow8, by rw [List.append_nil, List.length_replicate]⟩
  have KR := preset_any (K := K) (lc := lc) (lp := lp) (pb := pb) (d := (dict : Int)) (by rw [kg, kb]; omega) HH.out.1.1 HH.out.1.2.1 HH.out.1.2.2.1 (by rw [kn]; exact HH.out.2.2.2.2.2.1) (by rw [kn]; exact HH.out.2.2.2.2.2.2) hrk
  rw [kg] at KR
  have KR := Lib.hid KR
  have hk8 := HK6.out.only hO8 (fun h => h)
  have d0 : w8.cell? ⟨B, 0, none⟩ = some (.int .i64 (lc : Int)) := hk8.cell 0
  have d1 : w8.cell? ⟨B, 1, none⟩ = some (.int .i64 (lp : Int)) := hk8.cell 1
  have d2 : w8.cell? ⟨B, 2, none⟩ = some (.int .i64 (pb : Int)) := hk8.cell 2
  have d3 : w8.cell? ⟨B, 3, none⟩ = some (.int .i64 (dict : Int)) := hk8.cell 3
  have HX8 := Lib.hid (And.intro (HM6.out.only hO8 (fun h => h)) (And.intro (HW6.out.only hO8 (fun _ _ h => h)) (And.intro (HO6.out.trans (hO8.mono fun _ h => h.elim)) (And.intro hmB6 hGlb))))
  have HKC := Lib.hid (And.intro (kc.trans kn.symm) kd)
  have HKK := Lib.hid (And.intro kg (And.intro kb (And.intro kn (And.intro km (And.intro kw (And.intro kr kz))))))
  have HG8x := Lib.hid (show ∀ i, G i → i < w8.heap.size from fun i hi => Nat.lt_of_lt_of_le (HG6.out i hi) hO8.size)
  have HS8 := Lib.hid (show lb = w6.heap.size ∧ w.heap.size ≤ w6.heap.size from ⟨hlb, HO6.out.size⟩)
  rw [← hcs, ← hw7, ← hw8, ← hlb]
  clear hrk hrow8 hblk8 hO8 hk8 hw8 hw7 hs7 hcs kg kb kn km kw kr kz kc kd hK hmB6 hGlb HM6 HW6 HO6 HG6 HK6 hlb hmk
  go_wp2_with fail
  refine KR.out.mono ?_
  rintro e w9 ⟨rfl, hR9, hO9⟩
  have HR9 := Lib.hid (And.intro hR9 hO9)
  clear hR9 hO9 KR d0 d1 d2 d3
  go_wp2_with fail
  go_ret2
  obtain ⟨hM8, hW8, hOn8, hmB8, hG8⟩ := HX8.out
  obtain ⟨kg, kb, kn, km, kw, kr, kz⟩ := HKK.out
  obtain ⟨hR9, hO9⟩ := HR9.out
  obtain ⟨hh, hF, hf1, hf2, hn, hnl, hnl6⟩ := HH.out
  obtain ⟨hs8, hs0⟩ := HS8.out
  have hlt : ∀ i, G i → ¬ K.Bk i := by
    intro i hi hb
    have := hG8 i hi
    rcases hb with hb | hb
    · rw [kg] at hb; omega
    · rw [kb] at hb; omega
  have hmK : ¬ K.Bk m := by
    intro hb
    rcases hb with hb | hb
    · rw [kg] at hb; omega
    · rw [kb] at hb; omega
  have hP : P = probsN lc lp := HP.out
  subst hP
  have hW9 := hW8.only hO9 hlt
  have hO := hOn8.trans' hO9 (fun i hi => .inr (by
    rcases hi with hi | hi
    · rw [kg] at hi; omega
    · rw [kb] at hi; omega))
  have hgw := hO9.size
  have hg9 : ∀ i, G i → i < w9.heap.size := fun i hi => by
    have h1 := HG8x.out i hi
    omega
  refine ⟨K, G, km, kr, ?_, ?_, ?_, ⟨hR9, ?_, ?_, ?_, ?_, ?_, HKC.out.1, HKC.out.2⟩, ?_, ⟨?_, ?_, ?_⟩, hO⟩
  · rw [kz, hn]
  · rw [kn, hnl]
  · rw [kg]; rfl
  · rw [kw, km, kz]; exact hW9
  · rw [kg, kb]; omega
  · rw [km, kg]; omega
  · rw [km, kb]; omega
  · intro i hi
    have h1 := hG8 i hi
    have h2 := HGM.out i hi
    exact ⟨by rw [kg]; omega, by rw [kb]; omega, by rw [km]; exact h2, hg9 i hi⟩
  · rw [← hn]; exact hM8.only hO9 hmK
  · rw [kg]; omega
  · rw [kb]; omega
  · intro i hi
    have h1 := HGN.out.1 i hi
    have h2 := HO2.out.size
    omega
end Go.Proofs.YtiolfjhddbiglaaGreatDoor

/-
  The program's decoder of LZMA is closed: called, or deferred.
-/
namespace Go.Proofs.YtiolfjhddbiglaaGreatDoor
open Go.RowKit

theorem both_of_wp {P : Program} {f : FuncId} {fn : Func} {c : Code} {args : Array Value} {w : World} {R : Ending → World → Prop}
    (hf : P.funcs[f]? = some fn) (hb : fn.body = some c)
    (h : c.wp P (bodyPost P fn R) { tmps := args ++ Array.replicate (fn.ntmps - args.size) undef, defers := [] } w) :
    Calls P f args w R ∧ ∀ u, CallsD P f args u w fun e u' w' => u' = u ∧ R e w' := ⟨calls_of_wp hf hb h, fun _ => callsD_of_wp hf hb h⟩

theorem LzAt.len {w : World} {g : Nat} {fs : List Value} {ps : List Nat} (h : LzAt w g fs ps) : fs.length = 19 := by
  obtain ⟨_, _, _, h, _⟩ := h
  exact h
/-- the fields of a closed one -/
def shutFs (fs : List Value) : List Value := (((fs.set 8 (.int .i64 0)).set 15 (.slice none 0 0)).set 4 .nilIface).set 5 (.pointer none)
def ClosePost (g wg m : Nat) (fs : List Value) (ps : List Nat) (Gw : Nat → Prop) (s : Ws) (q : Quo) (t : Tel) (room : Int) (w : World) (e : Ending) (w' : World) : Prop :=
  e = .returned (.tuple #[]) ∧ ∃ G', LzAt w' g (shutFs fs) ps ∧ Pwin w' wg G' m s.close ∧ MeterAt w' 83 m q ((if s.shut = true then t else t.doFree (s.sz : Int)).doFree room) ∧ (∀ i, G' i → Gw i ∨ w.heap.size ≤ i) ∧ Only (fun i => Gw i ∨ i = m ∨ i = g) w w'

set_option maxRecDepth 100000 in
set_option maxHeartbeats 4000000 in
theorem lclose_any {w : World} {g wg m : Nat} {fs : List Value} {ps : List Nat} {Gw : Nat → Prop} {s : Ws} {q : Quo} {t : Tel} {room : Int} (hD : LzAt w g fs ps) (h6 : fs[6]? = some (.pointer (some ⟨wg, 0, none⟩))) (h7 : fs[7]? = some (.pointer (some ⟨m, 0, none⟩))) (h8 : fs[8]? = some (.int .i64 room))
    (hr : room ≤ 9223372036854775807) (hW : Pwin w wg Gw m s) (hz : s.sz ≤ 1048576) (hM : MeterAt w 83 m q t) (hF : Fine q t) (hm : ¬ Gw m) (hg : ¬ Gw g) (hmg : m ≠ g) :
    Calls Tryz.prog 39 #[.pointer (some ⟨g, 0, none⟩)] w (ClosePost g wg m fs ps Gw s q t room w) ∧
    ∀ u, CallsD Tryz.prog 39 #[.pointer (some ⟨g, 0, none⟩)] u w fun e u' w' => u' = u ∧ ClosePost g wg m fs ps Gw s q t room w e w' := by
  have c6 : w.cell? ⟨g, 6, none⟩ = some (.pointer (some ⟨wg, 0, none⟩)) := by
    rw [show (6 : Nat) = fat 6 from rfl, hD.cell 6 (by decide)]
    simp [h6]
  have KW := Lib.hid (wclose_any hW hz hM hF hm)
  have HM0 := Lib.hid hM.lt
  have HH := Lib.hid (And.intro hD (And.intro h7 (And.intro h8 (And.intro hr (And.intro hF (And.intro hm (And.intro hg hmg)))))))
  clear hD h6 h7 h8 hr hW hz hM hF hm hg hmg
  refine both_of_wp Tryz.func39 rfl ?_
  simp only [Tryz.ntmps39, List.size_toArray, List.length_cons, List.length_nil, Nat.reduceAdd, Nat.reduceSub, Array.replicate_succ, Array.replicate_zero, List.push_toArray, List.append_toArray, List.nil_append, List.cons_append]
  go_wp2_with fail
  refine KW.out.mono ?_
  rintro e w1 ⟨rfl, G1, hW1, hM1, hG1, hO1⟩
  obtain ⟨hD, h7, h8, hr, hF, hm, hg, hmg⟩ := HH.out
  have hng : ¬ (Gw g ∨ g = m) := by
    rintro (h | h)
    · exact hg h
    · exact hmg h.symm
  have hD1 := hD.only hO1 hng
  have c7 : w1.cell? ⟨g, 7, none⟩ = some (.pointer (some ⟨m, 0, none⟩)) := by
    rw [show (7 : Nat) = fat 7 from rfl, hD1.cell 7 (by decide)]
    simp [h7]
  have c8 : w1.cell? ⟨g, 8, none⟩ = some (.int .i64 room) := by
    rw [show (8 : Nat) = fat 8 from rfl, hD1.cell 8 (by decide)]
    simp [h8]
  have hgs : g < w.heap.size := hD.lt
  have hmG1 : ¬ G1 m := fun h => by
    rcases hG1 m h with h | h
    · exact hm h
    · have := hM1.lt
      have h2 := HM0.out
      omega
  have hF1 : Fine q (if s.shut = true then t else t.doFree (s.sz : Int)) := by
    split
    · exact hF
    · exact hF.free _
  have KF := Lib.hid (free_any (w := w1.drew) (hM1.drewN 1) hF1 room hr)
  have HX := Lib.hid (And.intro hD1 (And.intro hW1 (And.intro hG1 (And.intro hO1 hmG1))))
  have hmg2 : g ≠ m := fun e => hmg e.symm
  have HS := Lib.hid (fun (W : World) (hW : Only (fun i => i = m) w1 W) => (show W.cell? ⟨g, 7, none⟩ = some (.pointer (some ⟨m, 0, none⟩)) ∧ W.cell? ⟨g, 8, none⟩ = some (.int .i64 room) from
    have hk := hD1.only hW hmg2
    ⟨by rw [show (7 : Nat) = fat 7 from rfl, hk.cell 7 (by decide)]; simp [h7], by rw [show (8 : Nat) = fat 8 from rfl, hk.cell 8 (by decide)]; simp [h8]⟩))
  clear hW1 hM1 hG1 hO1 hD h7 h8 hr hF hm hg hng hD1 hgs hmG1 hF1 KW c6 hmg hmg2
  go_wp2_with fail
  go_region_held3 (fun w' => w'.cell? ⟨g, 7, none⟩ = some (.pointer (some ⟨m, 0, none⟩)) ∧ w'.cell? ⟨g, 8, none⟩ = some (.int .i64 room))
    (first | assumption | go_keep | exact ⟨c7, c8⟩ | exact HS.out _ HO2.out)
    (first
      | (go_at_call 71; refine KF.out.mono ?_; rintro e w2 ⟨rfl, hM2, hg2⟩; have HO2 := Lib.hid (show Only (fun i => i = m) w1 w2 from ((Only.refl (fun i => i = m) w1).drew).trans (Only.of_grown hg2 rfl)); have HM2 := Lib.hid hM2; clear hM2 hg2))
  have hD2 : LzAt w2 g fs ps := HX.out.1.only HO2.out (fun e => HH.out.2.2.2.2.2.2.2 e.symm)
  have a1 := hD2.cell 8 (by decide)
  have a2 := hD2.cell 15 (by decide)
  have a3 := hD2.cell 4 (by decide)
  have a4 := hD2.cell 5 (by decide)
  obtain ⟨u8, b8⟩ : ∃ u, w2.cell? ⟨g, 8, none⟩ = some u := ⟨_, a1.trans (List.getElem?_eq_getElem (by have := hD2.len; omega))⟩
  obtain ⟨u15, b15⟩ : ∃ u, w2.cell? ⟨g, 1862, none⟩ = some u := ⟨_, a2.trans (List.getElem?_eq_getElem (by have := hD2.len; omega))⟩
  obtain ⟨u4, b4⟩ : ∃ u, w2.cell? ⟨g, 4, none⟩ = some u := ⟨_, a3.trans (List.getElem?_eq_getElem (by have := hD2.len; omega))⟩
  obtain ⟨u5, b5⟩ : ∃ u, w2.cell? ⟨g, 5, none⟩ = some u := ⟨_, a4.trans (List.getElem?_eq_getElem (by have := hD2.len; omega))⟩
  have z8 := hD2.free 8
  have z15 := hD2.free 1862
  have z4 := hD2.free 4
  have z5 := hD2.free 5
  have HD2 := Lib.hid hD2
  clear hD2 a1 a2 a3 a4 HS KF c7 c8
  go_wp2_with fail
  go_end0
  obtain ⟨hD1, hW1, hG1, hO1, hmG1⟩ := HX.out
  obtain ⟨hD, h7, h8, hr, hF, hm, hg, hmg⟩ := HH.out
  have p1 := HD2.out.put 8 (by decide) (.int .i64 0)
  have p2 := p1.put 15 (by decide) (.slice none 0 0)
  have p3 := p2.put 4 (by decide) .nilIface
  have p4 := p3.put 5 (by decide) (.pointer none)
  have hOg := (((((Only.refl (fun i => i = g) w2).setCell (p := ⟨g, 8, none⟩) (.inl rfl) (.int .i64 0)).setCell (p := ⟨g, 1862, none⟩) (.inl rfl) (.slice none 0 0)).setCell (p := ⟨g, 4, none⟩) (.inl rfl) .nilIface).setCell (p := ⟨g, 5, none⟩) (.inl rfl) (.pointer none))
  have hg1 : ∀ i, G1 i → i ≠ g := fun i hi e => by
    subst e
    rcases hG1 i hi with h | h
    · exact hg h
    · have := hD.lt; omega
  refine ⟨rfl, G1, p4, ?_, HM2.out.only hOg hmg, hG1, ?_⟩
  · exact (hW1.only HO2.out (fun i hi e => hmG1 (e ▸ hi))).only hOg hg1
  · exact ((hO1.mono fun i hi => by rcases hi with hi | hi; exact .inl hi; exact .inr (.inl hi)).trans (HO2.out.mono fun i hi => .inr (.inl hi))).trans (hOg.mono fun i hi => .inr (.inr hi))
end Go.Proofs.YtiolfjhddbiglaaGreatDoor

/-
  The decoder of LZMA2 is closed; a new one.
-/
namespace Go.Proofs.YtiolfjhddbiglaaGreatDoor
open Go.RowKit

theorem Un.only {K : Kon} {w w' : World} {Gw S : Nat → Prop} {lc lp pb dict : Nat} (h : Un K w Gw lc lp pb dict) (hO : Only S w w') (h1 : ¬ S K.g) (h2 : ¬ S K.lb) (h3 : ∀ i, Gw i → ¬ S i) : Un K w' Gw lc lp pb dict :=
  ⟨(K.prb _ h.gn).only h.row hO (fun i hi => by rcases hi with rfl | rfl; exact h1; exact h2), h.win.only hO h3, h.gn, h.mg, h.mb, fun i hi => ⟨(h.wd i hi).1, (h.wd i hi).2.1, (h.wd i hi).2.2.1, Nat.lt_of_lt_of_le (h.wd i hi).2.2.2 hO.size⟩, h.nc, h.sd⟩


def QClose (d g f wg m : Nat) (sd : Ds) (fs : List Value) (ps : List Nat) (Gw : Nat → Prop) (s : Ws) (q : Quo) (t : Tel) (room : Int) (w : World) (e : Ending) (w' : World) : Prop :=
  e = .returned (.tuple #[]) ∧ ∃ G', LzAt w' g (shutFs fs) ps ∧ Pwin w' wg G' m s.close ∧ MeterAt w' 83 m q ((if s.shut = true then t else t.doFree (s.sz : Int)).doFree room) ∧ Blk w' d 105 (d2Cells g f { sd.fail with closed := true }) ∧ (∀ i, G' i → Gw i ∨ w.heap.size ≤ i) ∧ Only (fun i => Gw i ∨ i = m ∨ i = g ∨ i = d) w w'

set_option maxRecDepth 100000 in
set_option maxHeartbeats 4000000 in
theorem qclose_any {w : World} {d g f wg m : Nat} {sd : Ds} {fs : List Value} {ps : List Nat} {Gw : Nat → Prop} {s : Ws} {q : Quo} {t : Tel} {room : Int} (hB : Blk w d 105 (d2Cells g f sd)) (hD : LzAt w g fs ps) (h6 : fs[6]? = some (.pointer (some ⟨wg, 0, none⟩))) (h7 : fs[7]? = some (.pointer (some ⟨m, 0, none⟩))) (h8 : fs[8]? = some (.int .i64 room))
    (hr : room ≤ 9223372036854775807) (hW : Pwin w wg Gw m s) (hz : s.sz ≤ 1048576) (hM : MeterAt w 83 m q t) (hF : Fine q t) (hm : ¬ Gw m) (hg : ¬ Gw g) (hmg : m ≠ g) (hdg : d ≠ g) (hdm : d ≠ m) (hGd : ¬ Gw d) :
    Calls Tryz.prog 18 #[.pointer (some ⟨d, 0, none⟩)] w (QClose d g f wg m sd fs ps Gw s q t room w) ∧
    ∀ u, CallsD Tryz.prog 18 #[.pointer (some ⟨d, 0, none⟩)] u w fun e u' w' => u' = u ∧ QClose d g f wg m sd fs ps Gw s q t room w e w' := by
  have c0 : w.cell? ⟨d, 0, none⟩ = some (.pointer (some ⟨g, 0, none⟩)) := hB.cell 0
  have KC := Lib.hid (lclose_any hD h6 h7 h8 hr hW hz hM hF hm hg hmg).1
  have HH := Lib.hid (And.intro hB (And.intro hdg (And.intro hdm hGd)))
  have HGM := Lib.hid (And.intro hW hM.lt)
  have HGs := Lib.hid (And.intro hD.lt hmg)
  clear hB hD h6 h7 h8 hr hW hz hM hF hm hg hmg hdg hdm hGd
  refine both_of_wp Tryz.func18 rfl ?_
  simp only [Tryz.ntmps18, List.size_toArray, List.length_cons, List.length_nil, Nat.reduceAdd, Nat.reduceSub, Array.replicate_succ, Array.replicate_zero, List.push_toArray, List.append_toArray, List.nil_append, List.cons_append]
  go_wp2_with fail
  refine KC.out.mono ?_
  rintro e w1 ⟨rfl, G1, hD1, hW1, hM1, hG1, hO1⟩
  obtain ⟨hB, hdg, hdm, hGd⟩ := HH.out
  have hB1 := hB.only hO1 (by rintro (h | h | h); exact hGd h; exact hdm h; exact hdg h)
  have c1 : w1.cell? ⟨d, 1, none⟩ = some (.bool sd.closed) := hB1.cell 1
  have z1 := hB1.free 1
  have hB2 := hB1.put 1 (.bool true)
  have hO2 := (Only.refl (fun i => i = d) w1).setCell (p := ⟨d, 1, none⟩) (.inl rfl) (.bool true)
  have KF := Lib.hid (qfail_any (s := { sd with closed := true }) (f := f) (g := g) hB2)
  have HE := Lib.hid (And.intro hD1 (And.intro hW1 (And.intro hM1 (And.intro hG1 (And.intro hO1 hO2)))))
  have hds : d < w.heap.size := hB.lt
  have HDS := Lib.hid hds
  clear hD1 hW1 hM1 hG1 hO1 hO2 hB hB1 hB2 hdg hdm hGd KC c0 hds
  go_wp2_with fail
  refine KF.out.mono ?_
  rintro e w2 ⟨rfl, hB3, hO3⟩
  have HF := Lib.hid (And.intro hB3 hO3)
  clear hB3 hO3 KF
  go_wp2_with fail
  first | go_end0 | refine bodyPost_ret (results_none rfl _ _ _) rfl ?_
  obtain ⟨hD1, hW1, hM1, hG1, hO1, hO2⟩ := HE.out
  obtain ⟨hB, hdg, hdm, hGd⟩ := HH.out
  have hO23 := hO2.trans HF.out.2
  have hgd : ¬ (g = d) := fun e => hdg e.symm
  have hmd : ¬ (m = d) := fun e => hdm e.symm
  refine ⟨rfl, G1, hD1.only hO23 hgd, hW1.only hO23 (fun i hi e => ?_), hM1.only hO23 hmd, HF.out.1, hG1, (hO1.mono fun i hi => ?_).trans (hO23.mono fun i hi => .inr (.inr (.inr hi)))⟩
  · rcases hG1 i hi with h | h
    · exact hGd (e ▸ h)
    · have := HDS.out
      omega
  · rcases hi with h | h | h
    · exact .inl h
    · exact .inr (.inl h)
    · exact .inr (.inr (.inl h))

/-- the fields of a new one -/
def ds0 : Ds := ⟨false, false, false, 0, 0, 0, 0, 0, 0, none⟩
def QNew (w : World) (m : Nat) (q : Quo) (t : Tel) (dict : Nat) (size : Int) (e : Ending) (w' : World) : Prop :=
  ∃ (K : Kon) (Gw : Nat → Prop) (d : Nat), K.m = m ∧ K.room = 2 * (probsN 4 0 : Int) ∧ K.sz = (max (min (dict : Int) size) 1).toNat ∧ K.nl = 768 * 2 ^ 4 ∧ e = .returned (.tuple #[.pointer (some ⟨d, 0, none⟩), .int .i64 0]) ∧
    Blk w' d 105 (d2Cells K.g 0 ds0) ∧ Un K w' Gw 4 0 0 dict ∧ MeterAt w' 83 m q ((t.doMem q (max (min (dict : Int) size) 1)).doMem q (2 * (probsN 4 0 : Int))) ∧ (w.heap.size ≤ K.g ∧ w.heap.size ≤ K.lb ∧ ∀ i, Gw i → w.heap.size ≤ i) ∧ (w.heap.size ≤ d ∧ K.g < d ∧ K.lb < d ∧ ∀ i, Gw i → i < d) ∧ Only (fun i => i = m) w w'

set_option maxRecDepth 100000 in
set_option maxHeartbeats 4000000 in
theorem qnew_any {w : World} {m p : Nat} {q : Quo} {t : Tel} {size : Int} (hp : p ≤ 40) (hM : MeterAt w 83 m q t) (hF : Fine q t) (h0 : -9223372036854775808 ≤ size) (h1 : size ≤ 1048576)
    (hf1 : fits t.code t.mem q.mem (max (min (dictN p : Int) size) 1)) (hf2 : fits (t.doMem q (max (min (dictN p : Int) size) 1)).code (t.doMem q (max (min (dictN p : Int) size) 1)).mem q.mem (2 * (probsN 4 0 : Int))) :
    Calls Tryz.prog 17 #[.int .u8 (p : Int), .int .i64 size, .pointer (some ⟨m, 0, none⟩)] w (QNew w m q t (dictN p) size) := by
  have KD := qdict_any (p := p) (by omega) w
  have hdc : dictC p = 0 := by unfold dictC; rw [if_neg (by omega)]
  rw [hdc] at KD
  have hd := dict_le hp
  have KN := lnew_any (lc := 4) (lp := 0) (pb := 0) (dict := dictN p) (size := size) ⟨by omega, by omega, by omega, hd.1, hd.2⟩ (by omega) hM hF h0 h1 hf1 hf2
  generalize dictN p = dict at *
  have KN := Lib.hid KN
  have KD := Lib.hid KD
  have HML := Lib.hid hM.lt
  clear hM hF h0 h1 hf1 hf2 hdc hd hp
  go_enter Tryz.func17, Tryz.ntmps17
  go_wp2_with fail
  refine KD.out.mono ?_
  rintro e w1 ⟨rfl, rfl⟩
  clear KD
  go_wp2_with fail
  refine KN.out.mono ?_
  rintro e w2 ⟨K, Gw, hKm, hroom, hsz, hnl, rfl, hUn, hM2, hnew, hO2⟩
  have HE := Lib.hid (And.intro hKm (And.intro hroom (And.intro hsz (And.intro hnl (And.intro hUn (And.intro hM2 (And.intro hnew hO2)))))))
  clear hKm hroom hsz hnl hUn hM2 hnew hO2 KN
  go_wp2_with fail
  go_ret2
  obtain ⟨hKm, hroom, hsz, hnl, hUn, hM2, hnew, hO2⟩ := HE.out
  refine ⟨K, Gw, w2.heap.size, hKm, hroom, hsz, hnl, rfl, ?_, hUn.only ((Only.refl (fun _ => False) w2).alloc _) (fun h => h) (fun h => h) (fun _ _ h => h), hM2.alloc _, hnew, ⟨hO2.size, hUn.row.1.lt, hUn.row.2.1.lt, fun i hi => (hUn.wd i hi).2.2.2⟩, hO2.alloc _⟩
  exact Blk.fresh w2 _ _
end Go.Proofs.YtiolfjhddbiglaaGreatDoor

/-
  The program's Unpack of LZMA2: what stands between two bytes.
-/
namespace Go.Proofs.YtiolfjhddbiglaaGreatDoor
open Go.RowKit
set_option linter.unusedVariables false

theorem plainC_pos {nd n : Nat} {z : Lzs} {ps : List Nat} {r xs : List UInt8} {q' : Rs} (hn : 1 ≤ n) (h : plainC nd z ps r n = some (xs, q')) : 1 ≤ xs.length := by
  unfold plainC at h
  split at h
  · cases h
  · rename_i hc
    injection h with h
    injection h with h1 h2
    rw [← h1, List.length_take]
    omega
theorem packC_pos {n N : Nat} {rest xs : List UInt8} {z : Lzs} {t : Pm Dc} {q' : Rs} (hn : 1 ≤ n) (hN : n ≤ N) (h : packC n rest z t N = some (xs, q')) : 1 ≤ xs.length := by
  rw [packC_xs h]
  omega
theorem bodyC_pos {q : Rs} {how n k : Nat} {s : Nat × Nat × Nat} {r xs : List UInt8} {q' : Rs} (hn : 1 ≤ n) (h : bodyC q how n k s r = some (xs, q')) : 1 ≤ xs.length := by
  unfold bodyC at h
  split at h
  · cases h
  · exact packC_pos hn (Nat.le_add_left _ _) h
theorem packedC_pos {q : Rs} {c : Nat} {r xs : List UInt8} {q' : Rs} (h : packedC q c r = some (xs, q')) : 1 ≤ xs.length := by
  unfold packedC at h
  split at h
  · split at h
    · cases h
    · split at h
      · split at h
        · cases h
        · split at h
          · cases h
          · exact bodyC_pos (Nat.le_add_left _ _) h
      · exact bodyC_pos (Nat.le_add_left _ _) h
  · cases h
theorem chunkN_pos {q : Rs} {xs : List UInt8} {q' : Rs} (h : chunkN q = some (xs, q')) : 1 ≤ xs.length := by
  unfold chunkN at h
  split at h
  · cases h
  · split at h
    · split at h
      · split at h
        · exact plainC_pos (Nat.le_add_left _ _) h
        · exact plainC_pos (Nat.le_add_left _ _) h
      · cases h
    · split at h
      · exact packedC_pos h
      · cases h
theorem tells0_none {q : Rs} (h : q.r ≠ [0]) : q.tells 0 = none := by
  cases hc : chunkN q with
  | none => exact tells_none h hc
  | some p =>
    obtain ⟨xs, q'⟩ := p
    exact tells_less h hc (chunkN_pos hc)
section
variable {K0 K : Kon} {d f lo D : Nat} {all r : List UInt8} {w w' w1 : World} {Gw ex S : Nat → Prop} {s : Ds} {st : St2}
theorem q2_rests (h : Q2 K0 d f lo all D w Gw ex st) : Rests K0 w Gw := by
  cases st with
  | bad => obtain ⟨s, r, z, ps, ⟨_, K, v4, v5, v16, v17, v18, hk, hr⟩, _⟩ := h; exact ⟨K, z, ps, v4, v5, v16, v17, v18, hk, hr⟩
  | fin r => obtain ⟨s, z, ps, ⟨_, K, v4, v5, v16, v17, v18, hk, hr⟩, _⟩ := h; exact ⟨K, z, ps, v4, v5, v16, v17, v18, hk, hr⟩
  | rest q => obtain ⟨s, ⟨_, K, v4, v5, v16, v17, v18, hk, hr⟩, _⟩ := h; exact ⟨K, _, _, v4, v5, v16, v17, v18, hk, hr⟩
  | plain q l => obtain ⟨s, ⟨_, K, v4, v5, v16, v17, v18, hk, hr⟩, _⟩ := h; exact ⟨K, _, _, v4, v5, v16, v17, v18, hk, hr⟩
  | pack zf tf n l full r => obtain ⟨K, s, p, a, m, hk, hB, hs1, hs2, hs3, hs4, hs5, hl1, hl2, ha, hS, hbs, hfull, hr, hN, hD, h4, hep, hed, hfp⟩ := h; exact nx_rests hN hk
theorem q2_rdr (hx : Q2x K0 d f lo w Gw ex) (h : Q2 K0 d f lo all D w Gw ex st) : ∃ s r, Rdr w d K0.g f lo all ⟨s, r, []⟩ ∧ (⟨s, r, []⟩ : Lq).ends = decide (st.tells 0 = some []) := by
  cases st with
  | bad =>
    obtain ⟨s, r, z, ps, hi, hs1, hs3⟩ := h
    refine ⟨s, r, hi.rd, ?_⟩
    have e : (⟨s, r, []⟩ : Lq).at_.s.src = false := by
      unfold Lq.at_
      split
      · exact hs1
      · exact lq_off hs1
    rw [ends_bad e]
    exact (decide_eq_false (fun e => by cases e)).symm
  | fin r =>
    obtain ⟨s, z, ps, hi, hs1, hs2, hs3⟩ := h
    refine ⟨s, r, hi.rd, ?_⟩
    rw [ends_is hs3 (by rw [at_on hs2]; exact hs1) (last_on hs2), at_on hs2]
    show r.isEmpty = decide ((if 0 = 0 ∧ r = [] then some ([] : List UInt8) else none) = some [])
    cases r with
    | nil => rfl
    | cons x r => rw [if_neg (fun e => by cases e.2)]; rfl
  | rest q =>
    obtain ⟨s, hi, hs1, hs2, hs3, hset, hq⟩ := h
    refine ⟨s, q.r, hi.rd, ?_⟩
    show _ = decide (q.tells 0 = some [])
    cases hr : q.r with
    | nil =>
      have e : (⟨s, [], []⟩ : Lq).at_.s.src = false := by rw [at_off hs2, lq_dry hs1]; rfl
      rw [ends_bad e, tells0_none (by rw [hr]; decide)]
      rfl
    | cons x r =>
      by_cases hx0 : x = 0
      · subst hx0
        rw [ends_is hs3 (by rw [at_off hs2, lq_rd hs1]; exact hs1) (by rw [last_off hs2, lq_b hs1]), at_off hs2, lq_rd hs1]
        have e := tells_zero hr 0
        have e : q.tells 0 = (St2.fin r).tells 0 := e
        rw [e]
        show r.isEmpty = decide ((if 0 = 0 ∧ r = [] then some ([] : List UInt8) else none) = some [])
        cases r with
        | nil => rfl
        | cons x r => rw [if_neg (fun e => by cases e.2)]; rfl
      · rw [ends_last (by rw [last_off hs2, lq_b hs1]; exact hx0), tells0_none (by rw [hr]; intro e; injection e with e1 e2; exact hx0 e1)]
        rfl
  | plain q l =>
    obtain ⟨s, hi, hs1, hs2, hs3, hs4, h1, h2, hnd, hset, hq⟩ := h
    refine ⟨s, q.r, hi.rd, ?_⟩
    rw [ends_left (by show s.left ≠ 0; omega), plain_zero h1]
    rfl
  | pack zf tf n l full r =>
    obtain ⟨K, s, p, a, m, hk, hB, hs1, hs2, hs3, hs4, hs5, hl1, hl2, ha, hS, hbs, hfull, hr, hN, hD, h4, hep, hed, hfp⟩ := h
    have hpd := hN.lw.mch.pd
    rw [hS] at hpd
    obtain ⟨k, lf, hP, hpB, hk1, hk2, htx⟩ := pd_at hpd
    refine ⟨s, all.drop (a + k), ⟨hB, fun _ => ⟨a + k, hP.feed, rfl⟩, hx.dl.2, hx.lf, by show s.nd < 256; omega⟩, ?_⟩
    rw [ends_left (by show s.left ≠ 0; omega), pack_zero hl1]
    rfl
end
end Go.Proofs.YtiolfjhddbiglaaGreatDoor

/-
  The program's Unpack of LZMA2: what stands between two bytes, memory.
-/
namespace Go.Proofs.YtiolfjhddbiglaaGreatDoor
open Go.RowKit
set_option linter.unusedVariables false

/-- a new stream: all must be brought -/
def rs0 (L dict : Nat) (bs : List UInt8) : Rs := ⟨7, Lzs.start 4 0 0 dict, List.replicate L 1024, bs⟩
theorem rs0_ok {L dict : Nat} {bs : List UInt8} (hL : L = 1847 + 768 * 2 ^ (4 + 0)) (hd : dict < 4294967296) : Rok dict (rs0 L dict bs) := by
  have h1 : ZNear (Lzs.start 4 0 0 dict) L 0 := ⟨show 4 ≤ 8 by decide, show 0 ≤ 4 by decide, show 0 ≤ 4 by decide, hd, Nat.le_refl _, show 0 ≤ 11 by decide, show 0 < 4294967296 by decide, show 0 < 4294967296 by decide, show 0 < 4294967296 by decide, show 0 < 4294967296 by decide, hL⟩
  refine ⟨.inr (.inr rfl), ?_, fun p hp => ?_, rfl, rfl, rfl, show 4 + 0 ≤ 4 by decide⟩
  · show ZNear (Lzs.start 4 0 0 dict) (List.replicate L 1024).length 0
    rw [List.length_replicate]
    exact h1
  · rw [List.eq_of_mem_replicate hp]
    exact ⟨by decide, by decide⟩
/-- what stands between two bytes: out are in the row that v is, pre were told -/
structure Inv3 (K : Kon) (d f lo : Nat) (bs : List UInt8) (D : Nat) (B : Nat) (w : World) (size : Int) (res : Option (List UInt8)) (t : Tel) (v : Value) (wr : World) (out pre : List UInt8) (st : St2) (Gw ex : Nat → Prop) : Prop where
  q2 : Q2 K d f lo bs D wr Gw ex st
  qx : Q2x K d f lo wr Gw ex
  wl : st.wl ≤ pre.length
  own : wr.ownsRow B 5 1 v out.length (bv out)
  far : ∀ b, v.ownBlock = some b → ¬ (Gw b ∨ ex b)
  le : pre.length ≤ size.toNat
  res : res = (st.tells (size.toNat - pre.length)).map (pre ++ ·)
  mt : MeterAt wr 83 K.m muchQ t
  only : Only (fun i => i = K.m) w wr
  gm : ∀ i, Gw i ∨ ex i → w.heap.size ≤ i
  low : w.heap.size ≤ K.g ∧ w.heap.size ≤ K.lb ∧ w.heap.size ≤ d ∧ w.heap.size ≤ lo
  up : K.g < B ∧ K.lb < B ∧ d < B ∧ f < B ∧ K.m < w.heap.size
  bot : B ≤ wr.heap.size

section
variable {K : Kon} {d f lo B D : Nat} {bs : List UInt8} {w wr w6 w7 : World} {size : Int} {res : Option (List UInt8)} {t : Tel} {v v' : Value} {out pre : List UInt8} {st st' : St2} {Gw ex G1 ex1 : Nat → Prop} {x : UInt8} {o : Obj}
theorem Inv3.new' (h : Inv3 K d f lo bs D B w size res t v wr out pre st Gw ex) : ∀ i, own2 K d f Gw ex i → w.heap.size ≤ i := by
  intro i hk
  obtain ⟨u1, u2, u3, u4⟩ := h.low
  have := h.qx.lf
  rcases hk with e | e | e | e | e | e
  · omega
  · omega
  · omega
  · omega
  · exact h.gm i (.inl e)
  · exact h.gm i (.inr e)
theorem Inv3.meter (h : Inv3 K d f lo bs D B w size res t v wr out pre st Gw ex) : ¬ own2 K d f Gw ex K.m := fun e => by
  have := h.new' _ e
  have := h.up.2.2.2.2
  omega
theorem Inv3.far' (h : Inv3 K d f lo bs D B w size res t v wr out pre st Gw ex) : ∀ b, v.ownBlock = some b → ¬ own2 K d f Gw ex b := by
  intro b hb hk
  have h1 := (own_at h.own hb).1
  obtain ⟨u1, u2, u3, u4, u5⟩ := h.up
  rcases hk with e | e | e | e | e | e
  · omega
  · omega
  · omega
  · omega
  · exact h.far b hb (.inl e)
  · exact h.far b hb (.inr e)
theorem Inv3.told (h : Inv3 K d f lo bs D B w size res t v wr out out st Gw ex) (hlt : (out.length : Int) < size) (hq : Q2 K d f lo bs D w6 G1 ex1 st') (hx : Q2x K d f lo w6 G1 ex1) (hG : ∀ i, G1 i ∨ ex1 i → (Gw i ∨ ex i) ∨ wr.heap.size ≤ i) (hO : Only (own2 K d f Gw ex) wr w6)
    (ht : ∀ k, st.tells (k + 1) = (st'.tells k).map (x :: ·)) (hw : st'.wl ≤ st.wl + 1) : Inv3 K d f lo bs D B w size res t v w6 out (out ++ [x]) st' G1 ex1 := by
  obtain ⟨n, hnn⟩ : ∃ n, size.toNat - out.length = n + 1 := ⟨size.toNat - out.length - 1, by omega⟩
  have hn1 : size.toNat - (out ++ [x]).length = n := by simp; omega
  have hsz := h.only.size
  refine ⟨hq, hx, ?_, own_onlyV h.own hO h.far', fun b hb hg => ?_, by simp; omega, ?_, h.mt.only hO h.meter, h.only.trans' hO (fun i hi => .inr (h.new' i hi)), fun i hi => ?_, h.low, h.up, Nat.le_trans h.bot hO.size⟩
  · have := h.wl
    simp
    omega
  · rcases hG b hg with h1 | h1
    · exact h.far b hb h1
    · have := (own_at h.own hb).2
      omega
  · rw [h.res, hnn, hn1, ht n]
    cases st'.tells n <;> simp
  · rcases hG i hi with h1 | h1
    · exact h.gm i h1
    · omega
/-- a decoder wherever it stands, where blocks beyond all its own have turned -/
theorem Q2.apart {S : Nat → Prop} {w w' : World} (hx : Q2x K d f lo w Gw ex) (h : Q2 K d f lo bs D w Gw ex st) (hO : Only S w w') (hS : ∀ i, S i → i ≠ d ∧ i ≠ K.g ∧ i ≠ K.lb ∧ (i < lo ∨ f < i) ∧ ¬ Gw i ∧ ¬ ex i) : Q2 K d f lo bs D w' Gw ex st := by
  have hrd : ∀ {s : Ds} {r : List UInt8}, Rdr w d K.g f lo bs ⟨s, r, []⟩ → Rdr w' d K.g f lo bs ⟨s, r, []⟩ := fun h => h.only hO (fun e => (hS _ e).1 rfl) (fun i hi => (hS i hi).2.2.2.1)
  have hid : ∀ {s : Ds} {r : List UInt8} {z : Lzs} {ps : List Nat}, Idl K d f lo bs w Gw s r z ps → Idl K d f lo bs w' Gw s r z ps := fun h => by
    obtain ⟨K1, v4, v5, v16, v17, v18, hk, hr⟩ := h.rs
    exact ⟨hrd h.rd, K1, v4, v5, v16, v17, v18, hk, hr.only hO (by rw [hk.g]; exact fun e => (hS _ e).2.1 rfl) (by rw [hk.lb]; exact fun e => (hS _ e).2.2.1 rfl) (fun i hi e => (hS i e).2.2.2.2.1 hi)⟩
  cases st with
  | bad => obtain ⟨s, r, z, ps, hi, h2⟩ := h; exact ⟨s, r, z, ps, hid hi, h2⟩
  | fin r => obtain ⟨s, z, ps, hi, h2⟩ := h; exact ⟨s, z, ps, hid hi, h2⟩
  | rest q => obtain ⟨s, hi, h2⟩ := h; exact ⟨s, hid hi, h2⟩
  | plain q l => obtain ⟨s, hi, h2⟩ := h; exact ⟨s, hid hi, h2⟩
  | pack zf tf n l full r =>
    obtain ⟨K1, s, p, a, m, hk, hB, hs1, hs2, hs3, hs4, hs5, hl1, hl2, ha, hPS, hbs, hfull, hr, hN, hD, h4, hep, hed, hfp⟩ := h
    refine ⟨K1, s, p, a, m, hk, hB.only hO (fun e => (hS _ e).1 rfl), hs1, hs2, hs3, hs4, hs5, hl1, hl2, ha, hPS, hbs, hfull, hr, hN.apart hO (fun i hi => ?_) (fun i hi e => (hS i e).2.2.2.2.1 hi), hD, h4, hep, hed, hfp⟩
    have h1 := hS i hi
    refine ⟨fun e => ?_, fun e => h1.2.2.2.2.2 (e ▸ hed), fun e => h1.2.1 (e.trans hk.g), fun e => h1.2.2.1 (e.trans hk.lb)⟩
    rw [hPS] at e
    rcases e with e | e
    · exact h1.2.2.2.2.2 (e ▸ hep)
    · have := h1.2.2.2.1
      omega
theorem Inv3.put (h : Inv3 K d f lo bs D B w size res t v w6 out (out ++ [x]) st Gw ex) (ho : w7.ownsRow B 5 1 v' (out.length + 1) (bv out ++ [.int .u8 (x.toNat : Int)])) (hg : (w6.alloc o).grownBy w7 v.ownBlock) (hv : v'.ownBlock = v.ownBlock ∨ v'.ownBlock = some (w6.alloc o).heap.size)
    (hB0 : 1 ≤ B) : Inv3 K d f lo bs D B w size res t v' w7 (out ++ [x]) (out ++ [x]) st Gw ex := by
  have hsz := h.only.size
  have hO : Only (fun i => v.ownBlock = some i) w6 w7 := by
    have h1 : Only (fun i => v.ownBlock = some i) w6 (w6.alloc o) := (Only.refl _ w6).alloc _
    refine h1.trans ⟨hg.os, hg.tape, hg.output, hg.size, fun i hi hn => hg.block i hi (fun e => hn e.symm)⟩
  have hB : ∀ i, v.ownBlock = some i → B ≤ i := fun i hi => (own_at h.own hi).1
  obtain ⟨u1, u2, u3, u4, u5⟩ := h.up
  obtain ⟨l1, l2, l3, l4⟩ := h.low
  refine ⟨h.q2.apart h.qx hO (fun i hi => ⟨?_, ?_, ?_, ?_, fun e => h.far i hi (.inl e), fun e => h.far i hi (.inr e)⟩), h.qx.only hO (fun e => by have := hB _ e; omega), h.wl, ?_, fun b hb hgw => ?_, h.le, h.res, h.mt.only hO (fun e => ?_), h.only.trans' hO (fun i hi => .inr ?_), h.gm, h.low, h.up, Nat.le_trans h.bot hO.size⟩
  · have := hB i hi; omega
  · have := hB i hi; omega
  · have := hB i hi; omega
  · have := hB i hi; exact .inr (by omega)
  · rw [bv_append, List.length_append]
    exact ho
  · rcases hv with e | e
    · exact h.far b (e ▸ hb) hgw
    · rw [e] at hb
      injection hb with hb
      have h2 : (w6.alloc o).heap.size = w6.heap.size + 1 := by simp
      rcases hgw with hh | hh
      · obtain ⟨K1, z, ps, v4, v5, v16, v17, v18, hk, hr⟩ := q2_rests h.q2
        have h1 := hr.win.old hh
        omega
      · have h1 := (h.qx.ex b hh).2
        omega
  · have h1 := hB _ e
    omega
  · have := hB i hi
    omega
/-- Close, deferred -/
theorem zdoor {s : Ds} (hx : Q2x K d f lo wr Gw ex) (hr : Rests K wr Gw) (hB : Blk wr d 105 (d2Cells K.g f s)) (hM : MeterAt wr 83 K.m muchQ t) (hF : Fine muchQ t) (hroom : K.room ≤ 9223372036854775807) (hm : ¬ Gw K.m) (u : FrameMode) :
    CallsD Tryz.prog 18 #[.pointer (some ⟨d, 0, none⟩)] u wr fun e u' w' => u' = u ∧ e = .returned (.tuple #[]) ∧ MeterAt w' 83 K.m muchQ ((t.doFree (K.sz : Int)).doFree K.room) ∧ Only (fun i => Gw i ∨ i = K.m ∨ i = K.g ∨ i = d) wr w' := by
  obtain ⟨K1, z, ps, v4, v5, v16, v17, v18, hk, hr⟩ := hr
  have hD := hr.row.1
  have hW := hr.win
  rw [hk.g] at hD
  rw [hk.wg, hk.m, hk.sz] at hW
  have h1 := hr.wd
  rw [hk.g] at h1
  have hmg := hr.mg
  rw [hk.g, hk.m] at hmg
  refine ((qclose_any hB hD (by show some (Value.pointer (some ⟨K1.wg, 0, none⟩)) = _; rw [hk.wg]) (by show some (Value.pointer (some ⟨K1.m, 0, none⟩)) = _; rw [hk.m]) (by show some (Value.int .i64 K1.room) = _; rw [hk.room]) hroom hW hx.sz hM hF hm (fun hh => (h1 _ hh).1 rfl) hmg hx.dg.1 hx.dg.2.2 (fun hh => (hx.wd _ hh).2.1 rfl)).2 u).mono ?_
  rintro e u' w' ⟨rfl, rfl, G', _, _, k3, _, _, k5⟩
  exact ⟨rfl, rfl, k3, k5⟩
end
end Go.Proofs.YtiolfjhddbiglaaGreatDoor

/-
  The program's Unpack of LZMA2.
-/
namespace Go.Proofs.YtiolfjhddbiglaaGreatDoor
open Go.RowKit
set_option linter.unusedVariables false

theorem tells_zero_len {K0 : Kon} {d f lo D : Nat} {all : List UInt8} {w : World} {Gw ex : Nat → Prop} {st : St2} {xs : List UInt8} (hx : Q2x K0 d f lo w Gw ex) (h : Q2 K0 d f lo all D w Gw ex st) (he : st.tells 0 = some xs) : xs = [] := by
  cases st with
  | bad => cases he
  | fin r =>
    have he : (if 0 = 0 ∧ r = [] then some ([] : List UInt8) else none) = some xs := he
    split at he
    · injection he with he; exact he.symm
    · cases he
  | rest q =>
    have he : q.tells 0 = some xs := he
    by_cases hr : q.r = [0]
    · rw [tells_end hr, if_pos rfl] at he
      injection he with he
      exact he.symm
    · rw [tells0_none hr] at he
      cases he
  | plain q l =>
    obtain ⟨s, hi, hs1, hs2, hs3, hs4, h1, _⟩ := h
    rw [plain_zero h1] at he
    cases he
  | pack zf tf n l full r =>
    obtain ⟨K, s, p, a, m, hk, hB, hs1, hs2, hs3, hs4, hs5, hl1, _⟩ := h
    rw [pack_zero hl1] at he
    cases he
section
variable {w wr : World} {m p : Nat} {size : Int}

set_option maxRecDepth 100000 in
set_option maxHeartbeats 8000000 in
theorem zunp_ok {A : Option Addr} {n c : Nat} {bs : List UInt8} (hn : n = bs.length) (hS : Sl w A n (bv bs)) (hA : 0 < n → ∀ q o, A = some ⟨q, o, none⟩ → q ≠ m) (hl : n ≤ 10000000) (hM : MeterAt w 83 m muchQ Tel.zero)
    (hp : p ≤ 40) (h1 : size ≤ 100000) (h0 : -9223372036854775808 ≤ size) {L0 : Nat} (hL0 : L0 = 1847 + 768 * 2 ^ (4 + 0)) (hm1 : 1 ≤ m) (htab : ∀ how, how < 4 → w.cell? ⟨0, how, none⟩ = some (.int .u8 (bringN how : Int))) :
    Calls Tryz.prog 9 #[.slice A n c, .int .u8 (p : Int), .int .i64 size, .pointer (some ⟨m, 0, none⟩)] w (UpPost w m ((rs0 L0 (dictN p) bs).tells size.toNat) (codeU ((rs0 L0 (dictN p) bs).tells size.toNat))) := by
  obtain ⟨i, hi, hz0, hz1, hz2⟩ := info_parts info_u8
  have hpr : (probsN 4 0 : Int) = 14135 := by decide
  obtain ⟨R, hRR⟩ : ∃ R, R = 2 * (probsN 4 0 : Int) := ⟨_, rfl⟩
  obtain ⟨S, hSS⟩ : ∃ S, S = max (min (dictN p : Int) size) 1 := ⟨_, rfl⟩
  have hmm := much_mem (a := S) (b := R) (by omega) (by omega) (by omega) (by omega)
  have KN := Lib.hid (qnew_any (size := size) hp hM much_fine h0 (by omega) (by rw [← hSS]; exact hmm.1) (by rw [← hSS, ← hRR]; exact hmm.2.1))
  obtain ⟨res, hres⟩ : ∃ r, r = (rs0 L0 (dictN p) bs).tells size.toNat := ⟨_, rfl⟩
  rw [← hres]
  have HSO := Lib.hid (And.intro hp (And.intro h1 (And.intro h0 (And.intro hL0 hm1))))
  have HTB := Lib.hid htab
  have HIN := Lib.hid (And.intro hn (And.intro hS (And.intro hA hl)))
  have HRES := Lib.hid hres
  have HNUM := Lib.hid (And.intro hSS (And.intro hRR (And.intro hmm.2.2 (And.intro (show R ≤ 1000000 by omega) (show S ≤ 100000 by omega)))))
  have HS1 := Lib.hid hM.lt
  have HM0 := Lib.hid hM
  clear hp h1 h0 hL0 hm1 htab hn hS hA hl hres hSS hRR hmm hM hpr
  go_enter_defers Tryz.func9, Tryz.ntmps9
  go_wp2_with fail
  refine KN.out.mono ?_
  rintro e w2 ⟨K, Gw, d, hKm, hroom, hsz, hnl, rfl, hBd, hUn, hM2, hnew, hdd, hO2⟩
  have hS2 : Sl w2 A n (bv bs) := HIN.out.2.1.only hO2 (fun hn b o e h => HIN.out.2.2.1 hn b o e h)
  have KF := Lib.hid (newFeed_any (bs := bs) (c := c) hS2 (by have := HIN.out.2.2.2; omega))
  have HO2 := Lib.hid hO2
  have HUN := Lib.hid (And.intro hUn hBd)
  have HM2 := Lib.hid hM2
  have HKN := Lib.hid (And.intro hKm (And.intro hroom (And.intro hsz (And.intro hnew hdd))))
  have HNL := Lib.hid hnl
  clear hUn hBd hM2 hKm hroom hsz hnl hnew hdd hO2 hS2 KN
  go_wp2_with fail
  refine KF.out.mono ?_
  rintro e w3 ⟨f, rfl, hf, hF3, hb3⟩
  have hO3 : Only (fun _ => False) w2 w3 := Only.of_below hb3
  have hUn3 := HUN.out.1.only hO3 (fun h => h) (fun h => h) (fun _ _ h => h)
  have hBd3 : Blk w3 d 105 (d2Cells K.g f ds0) := HUN.out.2.only hO3 (fun h => h)
  have hdl : d < w2.heap.size := HUN.out.2.lt
  have hml : K.m < w2.heap.size := by rw [HKN.out.1]; exact HM2.out.lt
  have KB := Lib.hid (qbegin_any (o := []) hBd3 hF3 rfl hdl)
  have HM3 := Lib.hid (HM2.out.below hb3)
  have HX := Lib.hid (And.intro hUn3 (And.intro hdl (And.intro hml (And.intro hf (HO2.out.then hb3)))))
  clear hO3 hUn3 hBd3 hdl hml hf hF3 hb3 KF HO2 HM2
  go_wp2_with fail
  refine KB.out.mono ?_
  rintro e w4 ⟨rfl, hR4, hO4⟩
  have hI : Inv3 K d f w2.heap.size bs (dictN p) w4.heap.size w size res ((Tel.zero.doMem muchQ S).doMem muchQ R) (.slice none 0 0) w4 [] [] (.rest (rs0 L0 (dictN p) bs)) Gw (fun _ => False) := by
    obtain ⟨hUn, hdl, hml, hf, hO3⟩ := HX.out
    obtain ⟨hKm, hroom, hsz, hnew, hdd⟩ := HKN.out
    obtain ⟨hp, h1, h0, hL0, hm1⟩ := HSO.out
    have hgd := hdd.2.1
    have hbd := hdd.2.2.1
    have hnl := HNL.out
    have hmw : K.m < w.heap.size := by rw [hKm]; exact HS1.out
    have hU4 := hUn.only hO4 (fun e => by omega) (fun e => by omega) (fun i hi e => by have := hdd.2.2.2 i hi; omega)
    have hfo : f < w4.heap.size := by
      obtain ⟨_, hF, _⟩ := hR4.feed rfl
      exact hF.lt
    have hs43 : w3.heap.size ≤ w4.heap.size := hO4.size
    have hs2 : w.heap.size ≤ w2.heap.size := by have := hdd.1; omega
    have hL : 1847 + K.nl = L0 := by rw [hnl, hL0]
    have hzz : K.sz ≤ 1048576 := by
      rw [hsz]
      have := HNUM.out.2.2.2.2
      rw [HNUM.out.1] at this
      omega
    have hrow : Rk K (restFs K (Lzs.start 4 0 0 (dictN p)) .nilIface (.pointer none) (.int .i64 0) (.bool false) (.bool false)) w4 (List.replicate L0 1024) := by
      have e : restFs K (Lzs.start 4 0 0 (dictN p)) .nilIface (.pointer none) (.int .i64 0) (.bool false) (.bool false) = unFs K 4 0 0 (dictN p) := by
        unfold restFs unFs
        rw [hU4.nc, hU4.sd]
        rfl
      rw [e, ← hL]
      exact hU4.row
    have hLr : Lrest K w4 Gw (Lzs.start 4 0 0 (dictN p)) (List.replicate L0 1024) .nilIface (.pointer none) (.int .i64 0) (.bool false) (.bool false) :=
      ⟨hrow, hU4.win, hU4.gn, hU4.mg, hU4.mb, by rw [hU4.nc, hnl]; exact ⟨Nat.le_refl _, by decide⟩, fun i hi => ⟨(hU4.wd i hi).1, (hU4.wd i hi).2.1, (hU4.wd i hi).2.2.1⟩, by omega⟩
    have hOw : Only (fun i => i = m ∨ i = d) w w4 := (hO3.mono (fun i hi => .inl hi)).trans (hO4.mono (fun i hi => .inr hi))
    have hx : Q2x K d f w2.heap.size w4 Gw (fun _ => False) := by
      refine ⟨⟨by omega, by omega⟩, ⟨by omega, by omega⟩, hml, ⟨by omega, hdl⟩, hf, hfo, ⟨by omega, by omega, by have := hdd.1; omega⟩, fun i hi => ?_, fun i hi => hi.elim, hzz, by rw [hU4.nc, hnl], fun how hh => ?_⟩
      · have := hdd.2.2.2 i hi
        have := hnew.2.2 i hi
        exact ⟨by omega, by omega, .inl (by omega)⟩
      · rw [hOw.cell (p := ⟨0, how, none⟩) (by show 0 < w.heap.size; omega) (by have := hdd.1; show ¬ (0 = m ∨ 0 = d); omega)]
        exact HTB.out how hh
    refine ⟨⟨_, ⟨hR4, K, _, _, _, _, _, Ks.refl K, hLr⟩, rfl, rfl, rfl, ⟨rfl, fun e => by cases e⟩, rs0_ok hL0 (dict_le hp).2⟩, hx, Nat.le_refl _, World.ownsRow_nil _ _ _ _, (fun b hb => by cases hb), Nat.zero_le _, ?_, ?_, ?_, fun i hi => hi.elim (hnew.2.2 i) (fun e => e.elim), ⟨hnew.1, hnew.2.1, hdd.1, hs2⟩, ⟨by omega, by omega, by omega, hfo, hmw⟩, Nat.le_refl _⟩
    · rw [HRES.out]
      show _ = Option.map (fun x => [] ++ x) ((rs0 L0 (dictN p) bs).tells size.toNat)
      cases (rs0 L0 (dictN p) bs).tells size.toNat <;> rfl
    · rw [hKm, HNUM.out.1, HNUM.out.2.1]
      exact HM3.out.only hO4 (by have := hdd.1; have := HS1.out; omega)
    · rw [hKm]
      exact hO3.trans' hO4 (fun i hi => .inr (by have := hdd.1; omega))
  have hfit : 1 ≤ K.sz ∧ (dictN p = K.sz ∨ (size ≤ (K.sz : Int) ∧ K.sz ≤ dictN p)) := by
    have h1 := HKN.out.2.2.1
    have h2 := (dict_le HSO.out.1).1
    omega
  have HFIT := Lib.hid hfit
  have kr : K.room = R := by rw [HNUM.out.2.1]; exact HKN.out.2.1
  have kz : (K.sz : Int) = S := by rw [HKN.out.2.2.1, HNUM.out.1]; omega
  have HI := Lib.hid hI
  have HK := Lib.hid (And.intro HKN.out.1 (And.intro kr kz))
  generalize hB : w4.heap.size = B at *
  generalize hst0 : St2.rest (rs0 L0 (dictN p) bs) = st0 at *
  generalize hDD : dictN p = D at *
  generalize w2.heap.size = lo at *
  clear hI hR4 hO4 KB HUN HM3 HKN HX HRES kr kz HM0 hst0 hDD HNL HTB hfit
  obtain ⟨T, hT⟩ : ∃ T, T = (Tel.zero.doMem muchQ S).doMem muchQ R := ⟨_, rfl⟩
  rw [← hT] at HI HNUM
  have hTF : Fine muchQ T := by rw [hT]; exact (much_fine.mem _).mem _
  have HT := Lib.hid hTF
  clear hT hTF
  have HB4 := Lib.hid (Nat.le_of_eq hB.symm)
  clear hB
  go_wp2_with fail
  go_loopw [12] (fun v wr => ∃ (out : List UInt8) (st : St2) (G1 ex1 : Nat → Prop), Inv3 K d f lo bs D B w size res T v wr out out st G1 ex1) (fun v wr => size.toNat - slLen v)
  case atStart => exact ⟨[], st0, Gw, _, HI.out⟩
  case round =>
    clear HI
    obtain ⟨out, st, G1, ex1, hinv⟩ := hrel
    obtain ⟨A1, c1, rfl, hown⟩ := own_form hinv.own
    have HV := Lib.hid hinv
    clear hinv hown
    by_cases hlt : (out.length : Int) < size
    · have KX := Lib.hid (znext_any HV.out.qx HV.out.q2 (by have := HV.out.wl; have := HSO.out.2.1; omega) ⟨HFIT.out.1, HFIT.out.2.imp id (fun e => ⟨by have := HV.out.wl; omega, e.2⟩)⟩)
      have HLT := Lib.hid hlt
      go_wp2_with fail
      refine KX.out.mono ?_
      rintro e w6 ⟨st2, v2, ⟨rfl, G2, ex2, hq6, hx6, hG, hO⟩, ⟨x, rfl, ht6, hw6⟩ | ⟨rfl, ht6, ht60⟩⟩
      · have hmid := HV.out.told HLT.out hq6 hx6 hG hO ht6 hw6
        have HMI := Lib.hid hmid
        clear hq6 hx6 hG hO ht6 hw6 hmid KX hlt
        go_wp2_with (first
          | (at_builtin; refine wpList_appO _ rfl _ _ 22 rfl B 5 i _ 1 Tryz.underlying22 hi hz0 hz1 hz2 rfl _ out.length (bv out) rfl (HMI.out.own.alloc _) _ 1 1 [.int .u8 (x.toNat : Int)] rfl (sl_one _ _ _) (one_one _ _) ?_ (by decide) ?_ ?_)
          | fail)
        · have := HSO.out.2.1
          have := HLT.out
          omega
        · have := HMI.out.bot
          simp
          omega
        · intro A2 c2 w7 ho hg2 hv
          have hin := HMI.out.put (v' := .slice A2 (out.length + 1) c2) ho hg2 (hv.imp id (fun h => h.trans (by simp))) (by have := HMI.out.up.1; omega)
          have HIN2 := Lib.hid hin
          clear ho hg2 hv hin
          go_wp2_with fail
          go_roundw
          case rel =>
            refine ⟨out ++ [x], st2, G2, ex2, ?_⟩
            exact HIN2.out
          case measure =>
            have := HLT.out
            show size.toNat - (out.length + 1) < size.toNat - out.length
            omega
      · have hM6 : MeterAt w6 83 K.m muchQ T := HV.out.mt.only hO HV.out.meter
        have hres : res = none := by
          obtain ⟨k, hk⟩ : ∃ k, size.toNat - out.length = k + 1 := ⟨size.toNat - out.length - 1, by omega⟩
          rw [HV.out.res, hk, ht6]
          rfl
        have hGm : ∀ i, G2 i → w.heap.size ≤ i := by
          intro i hi
          rcases hG i (.inl hi) with h | h
          · exact HV.out.gm i h
          · have := HV.out.only.size
            omega
        have hOw : Only (fun i => i = K.m) w w6 := HV.out.only.trans' hO (fun i hi => .inr (HV.out.new' i hi))
        obtain ⟨s6, r6, hR6, _⟩ := q2_rdr hx6 hq6
        have KD := Lib.hid (zdoor hx6 (q2_rests hq6) hR6.blk hM6 HT.out (by rw [HK.out.2.1]; have := HNUM.out.2.2.2.1; omega) (fun e => by have := hGm _ e; have := HV.out.up.2.2.2.2; omega) .returning)
        have HE := Lib.hid (And.intro hres (And.intro hOw (And.intro hGm (And.intro HV.out.low.1 HV.out.low.2.2.1))))
        clear hM6 hres hGm hOw hq6 hx6 hR6 hG hO ht6 ht60 KX hlt HV
        go_wp2_with fail
        refine leaves_cons (f := 18) (args := #[.pointer (some ⟨d, 0, none⟩)]) (by simp) (by simp [go_sem]) ?_
        have KD := KD.out
        refine KD.mono ?_
        rintro e u' w7 ⟨rfl, rfl, hM7, hO7⟩
        obtain ⟨hres, hOw, hGm, hlg, hld⟩ := HE.out
        rw [HK.out.1] at hM7 hO7 hOw
        rw [HK.out.2.1, HK.out.2.2] at hM7
        refine ⟨_, results_tmp2 rfl _ _ _, ?_⟩
        subst hres
        refine ⟨⟨_, hM7, HNUM.out.2.2.1⟩, hOw.trans' hO7 (fun i hi => ?_), none, 0, rfl, ⟨rfl, fun h => absurd h (Nat.lt_irrefl 0)⟩⟩
        rcases hi with hi | hi | hi | hi
        · exact .inr (hGm i hi)
        · exact .inl hi
        · exact .inr (by omega)
        · exact .inr (by omega)
    · obtain ⟨s5, r5, hR5, hend⟩ := q2_rdr HV.out.qx HV.out.q2
      have KX := Lib.hid (qfinish_any hR5)
      have HLT := Lib.hid hlt
      have HEND := Lib.hid hend
      clear hR5 hend
      go_wp2_with fail
      refine KX.out.mono ?_
      rintro e w6 ⟨rfl, q6, hR6, hD6, hO6⟩
      have hO : Only (own2 K d f G1 ex1) wr w6 := hO6.mono (own_df K d f G1 ex1)
      have hx6 : Q2x K d f lo w6 G1 ex1 := HV.out.qx.only hO6 (df0 HV.out.qx)
      have hre6 : Rests K w6 G1 := (q2_rests HV.out.q2).only hO6 (by have h1 := HV.out.qx.gl; have h2 := HV.out.qx.lf; have h3 := HV.out.qx.dg.1; rintro (e | e) <;> omega) (by have h1 := HV.out.qx.ll; have h2 := HV.out.qx.lf; have h3 := HV.out.qx.dg.2.1; rintro (e | e) <;> omega)
        (fun i hi => by have h1 := HV.out.qx.wd i hi; have h2 := HV.out.qx.lf; rintro (e | e) <;> omega)
      have hM6 : MeterAt w6 83 K.m muchQ T := HV.out.mt.only hO HV.out.meter
      have hres : res = if (⟨s5, r5, []⟩ : Lq).ends = true then some out else none := by
        have h0 : size.toNat - out.length = 0 := by omega
        rw [HV.out.res, h0, HEND.out]
        by_cases hs : st.tells 0 = some []
        · rw [hs, if_pos (decide_eq_true rfl)]
          simp
        · rw [if_neg (by rw [decide_eq_false hs]; decide)]
          cases hq : st.tells 0 with
          | none => rfl
          | some xs => exact absurd hq (fun e => hs (by rw [e, tells_zero_len HV.out.qx HV.out.q2 e]))
      have hOw : Only (fun i => i = K.m) w w6 := HV.out.only.trans' hO (fun i hi => .inr (HV.out.new' i hi))
      have hrow := own_onlyV HV.out.own hO HV.out.far'
      have hdis : ∀ b', (Value.slice A1 out.length c1).ownBlock = some b' → ¬ (G1 b' ∨ b' = K.m ∨ b' = K.g ∨ b' = d) := by
        intro b' hb' hk
        have h1 := (own_at HV.out.own hb').1
        obtain ⟨u1, u2, u3, u4, u5⟩ := HV.out.up
        have := HV.out.low.1
        rcases hk with e | e | e | e
        · exact HV.out.far b' hb' (.inl e)
        · omega
        · omega
        · omega
      have KD := Lib.hid (zdoor hx6 hre6 hR6.blk hM6 HT.out (by rw [HK.out.2.1]; have := HNUM.out.2.2.2.1; omega) (fun e => by have := HV.out.gm _ (.inl e); have := HV.out.up.2.2.2.2; omega) .returning)
      have HE := Lib.hid (And.intro hres (And.intro hOw (And.intro (show ∀ i, G1 i → w.heap.size ≤ i from fun i hi => HV.out.gm i (.inl hi)) (And.intro HV.out.low.1 HV.out.low.2.2.1))))
      have HR := Lib.hid (And.intro hrow hdis)
      clear hO hx6 hre6 hM6 hres hOw hrow hdis KX hlt HV hR6 hD6 hO6 HEND
      generalize (⟨s5, r5, []⟩ : Lq).ends = b at *
      cases b with
      | false =>
        go_wp2_with fail
        refine leaves_cons (f := 18) (args := #[.pointer (some ⟨d, 0, none⟩)]) (by simp) (by simp [go_sem]) ?_
        have KD := KD.out
        refine KD.mono ?_
        rintro e u' w7 ⟨rfl, rfl, hM7, hO7⟩
        obtain ⟨hres, hOw, hGm, hlg, hld⟩ := HE.out
        rw [HK.out.1] at hM7 hO7 hOw
        rw [HK.out.2.1, HK.out.2.2] at hM7
        refine ⟨_, results_tmp2 rfl _ _ _, ?_⟩
        subst hres
        refine ⟨⟨_, hM7, HNUM.out.2.2.1⟩, hOw.trans' hO7 (fun i hi => ?_), none, 0, rfl, ⟨rfl, fun h => absurd h (Nat.lt_irrefl 0)⟩⟩
        rcases hi with hi | hi | hi | hi
        · exact .inr (hGm i hi)
        · exact .inl hi
        · exact .inr (by omega)
        · exact .inr (by omega)
      | true =>
        go_wp2_with fail
        refine leaves_cons (f := 18) (args := #[.pointer (some ⟨d, 0, none⟩)]) (by simp) (by simp [go_sem]) ?_
        have KD := KD.out
        refine KD.mono ?_
        rintro e u' w7 ⟨rfl, rfl, hM7, hO7⟩
        obtain ⟨hres, hOw, hGm, hlg, hld⟩ := HE.out
        have h9 := own_onlyV HR.out.1 hO7 (fun b' hb' hk => HR.out.2 b' hb' hk)
        rw [HK.out.1] at hM7 hO7 hOw
        rw [HK.out.2.1, HK.out.2.2] at hM7
        refine ⟨_, results_tmp2 rfl _ _ _, ?_⟩
        subst hres
        refine ⟨⟨_, hM7, HNUM.out.2.2.1⟩, hOw.trans' hO7 (fun i hi => ?_), A1, c1, rfl, Sl.of_own h9⟩
        rcases hi with hi | hi | hi | hi
        · exact .inr (hGm i hi)
        · exact .inl hi
        · exact .inr (by omega)
        · exact .inr (by omega)
end
end Go.Proofs.YtiolfjhddbiglaaGreatDoor

/-
  The laws' beginning of stage 11.
-/
namespace Go.Proofs.YtiolfjhddbiglaaGreatDoor
open Go.RowKit

/-- the table of what a chunk brings lies in block 0 -/
def TabQ (W : World) : Prop := ∀ how, how < 4 → W.cell? ⟨0, how, none⟩ = some (.int .u8 (bringN how : Int))
theorem TabQ.pos {W : World} (h : TabQ W) : 1 ≤ W.heap.size := World.block_lt_of_cell? _ _ (h 0 (by decide))
theorem TabQ.only {W W' : World} {S : Nat → Prop} (h : TabQ W) (hO : Only S W W') (hS : ¬ S 0) : TabQ W' := fun how hh => (hO.cell (p := ⟨0, how, none⟩) h.pos hS).trans (h how hh)
theorem TabQ.below {W W' : World} (h : TabQ W) (hb : Below W.heap.size W W') : TabQ W' := h.only (Only.of_below (S := fun _ => False) hb) (fun e => e)
theorem go6 (L0 D : Nat) : (rs0 L0 D [1, 0, 1, 97, 98, 0]).tells (Int.toNat 2) = some [97, 98] := rfl
theorem go5 (L0 D : Nat) : (rs0 L0 D [2, 0, 0, 97, 0]).tells (Int.toNat 1) = none := tells_odd (q := rs0 L0 D [2, 0, 0, 97, 0]) (r := [0, 0, 97, 0]) rfl (by decide) (by decide) (fun _ => show 7 % 2 = 1 by decide) (by decide) _
theorem sl_row6 (w : World) : Sl (w.alloc (.cells #[.int .u8 1, .int .u8 0, .int .u8 1, .int .u8 97, .int .u8 98, .int .u8 0] 5)) (some ⟨w.heap.size, 0, none⟩) 6 (bv [1, 0, 1, 97, 98, 0]) := sl_lit w 5 (bv [1, 0, 1, 97, 98, 0]).toArray (by decide)
theorem sl_row5 (w : World) : Sl (w.alloc (.cells #[.int .u8 2, .int .u8 0, .int .u8 0, .int .u8 97, .int .u8 0] 5)) (some ⟨w.heap.size, 0, none⟩) 5 (bv [2, 0, 0, 97, 0]) := sl_lit w 5 (bv [2, 0, 0, 97, 0]).toArray (by decide)

/-- behind one of the two: what is answered -/
def Awk2 (ys : List UInt8) (cd : Int) (v2 v3 : Value) (wx : World) : Prop := ∃ A c, v2 = .slice A ys.length c ∧ v3 = .int .i64 cd ∧ Sl wx A ys.length (bv ys)
theorem awk2_end {w w2 w3 W : World} {gm : Nat} {ys : List UInt8} {x : Ending} (hO2 : Only (fun _ => False) w w2) (hg : w.heap.size ≤ gm)
    (hW : Only (fun _ => False) w2 W) {o o' : Option (List UInt8)} (ho' : o' = o) (ho : o.getD [] = ys) (h : UpPost W gm o' (codeU o') x w3) : ∃ v2 v3, x = .returned (.tuple #[v2, v3]) ∧ Awk2 ys (codeU o) v2 v3 w3 ∧ Only (fun _ => False) w w3 := by
  subst ho'
  obtain ⟨_, hO, A, c, rfl, hS⟩ := h
  have hO' : Only (fun i => i = gm) w w3 := ((hO2.trans hW).mono (fun _ h => h.elim)).trans hO
  rw [ho] at hS ⊢
  exact ⟨_, _, rfl, ⟨A, c, rfl, rfl, hS⟩, hO'.os, hO'.tape, hO'.output, hO'.size, fun i hi _ => hO'.block i hi (by show ¬ i = gm; omega)⟩

theorem below_of {w w' : World} (h : Only (fun _ => False) w w') : Below w.heap.size w w' := h.below (Nat.le_refl _) (fun _ hh => hh.elim)

set_option maxRecDepth 100000 in
set_option maxHeartbeats 8000000 in
theorem awake11_any {w : World} (hT : TabQ w) : Calls Tryz.prog 7 #[] w fun e w' => e = .returned (.bool true) ∧ Below w.heap.size w w' := by
  obtain ⟨L0, hL0⟩ : ∃ L0, L0 = 1847 + 768 * 2 ^ (4 + 0) := ⟨_, rfl⟩
  have HL0 := Lib.hid hL0
  have HT := Lib.hid hT
  clear hL0 hT
  go_enter Tryz.func7, Tryz.ntmps7
  go_upto_region 1 with fail
  go_cut [1, 2] from 5 (fun v2 v3 wx => Awk2 [97, 98] 0 v2 v3 wx ∧ Only (fun _ => False) w wx)
  case first =>
    have hA1 := sl_row6 w
    have hOA : Only (fun _ => False) w (w.alloc (.cells #[.int .u8 1, .int .u8 0, .int .u8 1, .int .u8 97, .int .u8 98, .int .u8 0] 5)) := (Only.refl _ w).alloc _
    have hsA : (w.alloc (.cells #[.int .u8 1, .int .u8 0, .int .u8 1, .int .u8 97, .int .u8 98, .int .u8 0] 5)).heap.size = w.heap.size + 1 := by simp
    have HA1 := Lib.hid (And.intro hA1 (And.intro hOA hsA))
    clear hA1 hOA hsA
    go_wp2_with fail
    refine (much_any _).mono ?_
    rintro e w2 ⟨gm, rfl, hM, hg, hb⟩
    have HZ2 := Lib.hid (And.intro (Sl.below HA1.out.1 hb) (And.intro hM (And.intro (HA1.out.2.1.then hb) (show w.heap.size < gm from by have := HA1.out.2.2; omega))))
    clear hM hg hb HA1
    go_wp2_with fail
    have hT2 : TabQ w2 := HT.out.only HZ2.out.2.2.1 (fun e => e)
    have hg1 : 1 ≤ gm := by have := HT.out.pos; have := HZ2.out.2.2.2; omega
    refine (zunp_ok (n := 6) (bs := [1, 0, 1, 97, 98, 0]) (p := 0) (size := 2) rfl HZ2.out.1 (by intro _ q o e; injection e with e; injection e with e; have := HZ2.out.2.2.2; omega) (by omega) HZ2.out.2.1 (by omega) (by omega) (by omega) HL0.out hg1 hT2).mono ?_
    intro e w3 hpost
    obtain ⟨v2, v3, rfl, hR, hO3⟩ := awk2_end (w := w) HZ2.out.2.2.1 (Nat.le_of_lt HZ2.out.2.2.2) (Only.refl _ w2) (ys := [97, 98]) (go6 L0 (dictN 0)) rfl hpost
    have HR := Lib.hid (And.intro hR hO3)
    clear hpost hR hO3
    go_wp2_with fail
    go_meet
    exact HR.out
  case rest =>
    obtain ⟨⟨A6, c6, rfl, rfl, hS6⟩, hO6⟩ := hcut
    have HS6 := Lib.hid hS6
    have HO6 := Lib.hid hO6
    clear hS6 hO6
    generalize wc = w5 at *
    go_upto_region 2 with fail
    go_cut [3, 4] from 11 (fun v2 v3 wx => Awk2 [] 12 v2 v3 wx ∧ Only (fun _ => False) w5 wx)
    case first =>
      have hA1 := sl_row5 w5
      have hOA : Only (fun _ => False) w5 (w5.alloc (.cells #[.int .u8 2, .int .u8 0, .int .u8 0, .int .u8 97, .int .u8 0] 5)) := (Only.refl _ w5).alloc _
      have hsA : (w5.alloc (.cells #[.int .u8 2, .int .u8 0, .int .u8 0, .int .u8 97, .int .u8 0] 5)).heap.size = w5.heap.size + 1 := by simp
      have HA1 := Lib.hid (And.intro hA1 (And.intro hOA hsA))
      clear hA1 hOA hsA
      go_wp2_with fail
      refine (much_any _).mono ?_
      rintro e w2 ⟨gm, rfl, hM, hg, hb⟩
      have HZ2 := Lib.hid (And.intro (Sl.below HA1.out.1 hb) (And.intro hM (And.intro (HA1.out.2.1.then hb) (show w5.heap.size < gm from by have := HA1.out.2.2; omega))))
      clear hM hg hb HA1
      go_wp2_with fail
      have hT2 : TabQ w2 := HT.out.only (HO6.out.trans HZ2.out.2.2.1) (fun e => e)
      have hg1 : 1 ≤ gm := by have := HT.out.pos; have := HO6.out.size; have := HZ2.out.2.2.2; omega
      refine (zunp_ok (n := 5) (bs := [2, 0, 0, 97, 0]) (p := 0) (size := 1) rfl HZ2.out.1 (by intro _ q o e; injection e with e; injection e with e; have := HZ2.out.2.2.2; omega) (by omega) HZ2.out.2.1 (by omega) (by omega) (by omega) HL0.out hg1 hT2).mono ?_
      intro e w3 hpost
      obtain ⟨v2, v3, rfl, hR, hO3⟩ := awk2_end (w := w5) HZ2.out.2.2.1 (Nat.le_of_lt HZ2.out.2.2.2) (Only.refl _ w2) (ys := []) (go5 L0 (dictN 0)) rfl hpost
      have HR := Lib.hid (And.intro hR hO3)
      clear hpost hR hO3
      go_wp2_with fail
      go_meet
      exact HR.out
    case rest =>
      obtain ⟨⟨A7, c7, rfl, rfl, hS7⟩, hO7⟩ := hcut
      have HS8 := Lib.hid (HS6.out.only hO7 (fun _ _ _ _ h => h))
      have HO8 := Lib.hid (HO6.out.trans hO7)
      clear hS7 hO7 HS6 HO6
      generalize wc = w6 at *
      have hcv : ∀ k, (convert 22 9 (.slice A6 2 c6)).run Tryz.prog (w6.drewN k) = .ok (.string ⟨#[97, 98]⟩) (w6.drewN k) := by
        intro k
        obtain ⟨b, o, rfl, _, hc⟩ := HS8.out.2 (by decide)
        exact run_convert_bytes_arg (w6.drewN k) 22 5 Tryz.underlying22 Tryz.underlying5 b o 2 c6 [97, 98] rfl (fun i hi => by
          have := hc i hi
          rw [show (w6.drewN k).cell? ⟨b, o + i, none⟩ = w6.cell? ⟨b, o + i, none⟩ from rfl, this]
          rcases i with _ | _ | i
          · rfl
          · rfl
          · exact absurd hi (by simp)) 9 Tryz.underlying9
      have hcv0 : (convert 22 9 (.slice A6 2 c6)).run Tryz.prog w6 = .ok (.string ⟨#[97, 98]⟩) w6 := hcv 0
      clear hcv
      have qs : ∀ W : World, (binOp .eql 9 (.string ⟨#[97, 98]⟩) (.string ⟨#[97, 98]⟩)).run Tryz.prog W = .ok (.bool true) W := fun _ => by kernel_rfl
      go_wp2_with fail
      go_ret
      exact ⟨rfl, below_of HO8.out⟩
end Go.Proofs.YtiolfjhddbiglaaGreatDoor

/-
  What comes in, opened: two numbers in an array by value; lzma2's table, as the row lists it.
-/
namespace Go.Proofs.YtiolfjhddbiglaaGreatDoor
set_option linter.unusedVariables false
set_option linter.unusedSimpArgs false
open Go.ChangeShapes Go.WideShapes Go.ChangeAt Go.RowKit

section
variable {H : Type} {enc : TypeId × Value → H} {P : Program} {w : World} {base : Nat} {spare : Nat → Bool} {held : Bool}
end
theorem g_brings : Tryz.prog.globalNamed "garbler/lzma2.brings" = some 0 := by kernel_rfl
theorem t_brings : (Tryz.prog.globals[0]?).map (·.type) = some 174 := by kernel_rfl
theorem n_brings : Tryz.prog.cellsOf 174 = 4 := by kernel_rfl
theorem n_flags : Tryz.prog.cellsOf 102 = 1 := by kernel_rfl
theorem tabq_of_laid {W : World} (h : laidMetH Tryz.prog [("garbler/lzma2.brings", Rows.laid_garbler_lzma2_brings)] W) : TabQ W := by
  have h' : laidMet Tryz.prog [("garbler/lzma2.brings", Rows.laid_garbler_lzma2_brings)] W := h
  obtain ⟨ps, ⟨g, t, cs, fuel, p, q, hg, ht, hvar, hd, _, _⟩, _, hps⟩ := h'
  obtain rfl := Option.some.inj (g_brings.symm.trans hg)
  obtain rfl := Option.some.inj (t_brings.symm.trans ht)
  have k2 := Lib.cells_of_tab (k := .u8) (zs := [0, 4, 6, 7]) Tryz.underlying174 Tryz.underlying102 n_flags n_brings hd
  have c1 : ∀ i, W.cell? ⟨0, i, none⟩ = cs[i]? := World.var?_cell g_brings hvar
  intro a ha
  rw [c1, ← Array.getElem?_toList, k2]
  have hc : a = 0 ∨ a = 1 ∨ a = 2 ∨ a = 3 := by omega
  rcases hc with rfl | rfl | rfl | rfl <;> rfl
end Go.Proofs.YtiolfjhddbiglaaGreatDoor

/-
  The document's Unpack of LZMA2, as numbers: what a chunk's head says, and which chunks there are not.
-/
namespace Go.Proofs.YtiolfjhddbiglaaGreatDoor
set_option linter.unusedVariables false

theorem rchunk_mid {q : Rs} {c : UInt8} {r : List UInt8} (hr : q.r = c :: r) (h : 2 < c.toNat) (h2 : c.toNat < 128) : chunkN q = none := by
  unfold chunkN
  rw [hr]
  show (if c.toNat = 1 ∨ c.toNat = 2 then _ else if 128 ≤ c.toNat then _ else none) = none
  rw [if_neg (by omega), if_neg (by omega)]
theorem rchunk_nil {q : Rs} (hr : q.r = []) : chunkN q = none := by
  unfold chunkN
  rw [hr]
theorem rchunk_zero {q : Rs} {c : UInt8} {r : List UInt8} (hr : q.r = c :: r) (h : c.toNat = 0) : chunkN q = none := by
  unfold chunkN
  rw [hr]
  show (if c.toNat = 1 ∨ c.toNat = 2 then _ else if 128 ≤ c.toNat then _ else none) = none
  rw [if_neg (by omega), if_neg (by omega)]
theorem rchunk_short {q : Rs} (h : q.r.length < 3) : chunkN q = none := by
  unfold chunkN
  match hr : q.r with
  | [] => rfl
  | [c] =>
    show (if c.toNat = 1 ∨ c.toNat = 2 then none else if 128 ≤ c.toNat then packedC q c.toNat [] else none) = none
    split
    · rfl
    · split <;> rfl
  | [c, d] =>
    show (if c.toNat = 1 ∨ c.toNat = 2 then none else if 128 ≤ c.toNat then packedC q c.toNat [d] else none) = none
    split
    · rfl
    · split <;> rfl
  | _ :: _ :: _ :: _ => rw [hr] at h; simp at h; omega
/-- how many bytes a head tells of -/
def cnt2 (h g : UInt8) : Nat := 256 * h.toNat + g.toNat + 1
theorem rchunk_one {q : Rs} {c h g : UInt8} {r : List UInt8} (hr : q.r = c :: h :: g :: r) (hc : c.toNat = 1) : chunkN q = plainC 6 { q.z with out := [] } q.ps r (cnt2 h g) := by
  unfold chunkN
  rw [hr]
  show (if c.toNat = 1 ∨ c.toNat = 2 then (if c.toNat = 1 then _ else _) else _) = _
  rw [if_pos (.inl hc), if_pos hc]
  rfl
theorem rchunk_two {q : Rs} {c h g : UInt8} {r : List UInt8} (hr : q.r = c :: h :: g :: r) (hc : c.toNat = 2) : chunkN q = plainC q.nd q.z q.ps r (cnt2 h g) := by
  unfold chunkN
  rw [hr]
  show (if c.toNat = 1 ∨ c.toNat = 2 then (if c.toNat = 1 then _ else _) else _) = _
  rw [if_pos (.inr hc), if_neg (by omega)]
  rfl
/-- the setting that a packed chunk is told by, and the bytes behind it -/
def chooseC (z : Lzs) (how : Nat) (r : List UInt8) : Option ((Nat × Nat × Nat) × List UInt8) :=
  if 2 ≤ how then (match r with | [] => none | x :: r4 => (setN x).map (fun s => (s, r4))) else some ((z.lc, z.lp, z.pb), r)
theorem rchunk_packed {q : Rs} {c h g : UInt8} {r : List UInt8} (hr : q.r = c :: h :: g :: r) (hc : 128 ≤ c.toNat) : chunkN q = packedC q c.toNat (h :: g :: r) := by
  unfold chunkN
  rw [hr]
  show (if c.toNat = 1 ∨ c.toNat = 2 then _ else if 128 ≤ c.toNat then _ else none) = _
  rw [if_neg (by omega), if_pos hc]
theorem packed_short {q : Rs} {c h g : UInt8} {r : List UInt8} (hr : q.r = c :: h :: g :: r) (hc : 128 ≤ c.toNat) (hs : r.length < 2) : chunkN q = none := by
  rw [rchunk_packed hr hc]
  match r, hs with
  | [], _ => rfl
  | [_], _ => rfl
theorem packed_unset {q : Rs} {c h g k1 k2 : UInt8} {r : List UInt8} (hr : q.r = c :: h :: g :: k1 :: k2 :: r) (hc : 128 ≤ c.toNat) (hs : chooseC q.z (c.toNat / 32 - 4) r = none) : chunkN q = none := by
  rw [rchunk_packed hr hc]
  unfold chooseC at hs
  unfold packedC
  show (if bringsN q.nd (c.toNat / 32 - 4) = false then none else if 2 ≤ c.toNat / 32 - 4 then _ else _) = none
  split
  · rfl
  · split
    · rename_i h2
      rw [if_pos h2] at hs
      cases r with
      | nil => rfl
      | cons x r4 =>
        have hs : (setN x).map (fun s => (s, r4)) = none := hs
        cases hx : setN x with
        | none => show (match setN x with | none => none | some s => _) = none; rw [hx]
        | some s => rw [hx] at hs; cases hs
    · rename_i h2
      rw [if_neg h2] at hs
      cases hs
theorem packed_set {q : Rs} {c h g k1 k2 : UInt8} {r r4 : List UInt8} {s : Nat × Nat × Nat} (hr : q.r = c :: h :: g :: k1 :: k2 :: r) (hc : 128 ≤ c.toNat) (hs : chooseC q.z (c.toNat / 32 - 4) r = some (s, r4)) :
    chunkN q = if bringsN q.nd (c.toNat / 32 - 4) = false then none else bodyC q (c.toNat / 32 - 4) (c.toNat % 32 * 65536 + cnt2 h g) (cnt2 k1 k2) s r4 := by
  rw [rchunk_packed hr hc]
  unfold chooseC at hs
  unfold packedC
  show (if bringsN q.nd (c.toNat / 32 - 4) = false then none else if 2 ≤ c.toNat / 32 - 4 then _ else _) = _
  have e : c.toNat % 32 * 65536 + 256 * h.toNat + g.toNat + 1 = c.toNat % 32 * 65536 + cnt2 h g := by unfold cnt2; omega
  split
  · rfl
  · split
    · rename_i h2
      rw [if_pos h2] at hs
      cases r with
      | nil => cases hs
      | cons x r4' =>
        have hs : (setN x).map (fun s => (s, r4')) = some (s, r4) := hs
        cases hx : setN x with
        | none => rw [hx] at hs; cases hs
        | some s' =>
          rw [hx] at hs
          injection hs with hs
          injection hs with h1 h3
          subst h1 h3
          show (match setN x with | none => none | some s => bodyC q _ _ _ s _) = _
          rw [hx, ← e]
          rfl
    · rename_i h2
      rw [if_neg h2] at hs
      injection hs with hs
      injection hs with h1 h3
      subst h1 h3
      rw [← e]
      rfl
theorem plainC_len {nd n : Nat} {z : Lzs} {ps : List Nat} {r xs : List UInt8} {q' : Rs} (h : plainC nd z ps r n = some (xs, q')) : xs.length = n := by
  unfold plainC at h
  split at h
  · cases h
  · injection h with h
    injection h with h1 h2
    rw [← h1, List.length_take]
    omega
theorem bodyC_len {q : Rs} {how n k : Nat} {s : Nat × Nat × Nat} {r xs : List UInt8} {q' : Rs} (h : bodyC q how n k s r = some (xs, q')) : xs.length = n := by
  unfold bodyC at h
  split at h
  · cases h
  · have := packC_xs h
    omega
theorem over_none {q : Rs} {k n : Nat} (hr : q.r ≠ [0]) (h : ∀ xs q', chunkN q = some (xs, q') → xs.length = n) (hk : k < n) : q.tells k = none := by
  cases hc : chunkN q with
  | none => exact tells_none hr hc
  | some p =>
    obtain ⟨xs, q'⟩ := p
    exact tells_less hr hc (by rw [h xs q' hc]; exact hk)
theorem not_zero {q : Rs} {c : UInt8} {r : List UInt8} (hr : q.r = c :: r) (h : c.toNat ≠ 0) : q.r ≠ [0] := by
  rw [hr]
  intro e
  injection e with e1 e2
  rw [e1] at h
  exact h rfl
/-- what stands at a place -/
theorem drop_one {bs : List UInt8} {a : Nat} {c : UInt8} {r : List UInt8} (h : bs.drop a = c :: r) : bs[a]? = some c ∧ bs.drop (a + 1) = r ∧ a < bs.length := by
  have h1 : a < bs.length := by
    refine Nat.not_le.1 fun hle => ?_
    rw [List.drop_eq_nil_iff.2 hle] at h
    cases h
  refine ⟨?_, ?_, h1⟩
  · have : (bs.drop a)[0]? = some c := by rw [h]; rfl
    rw [List.getElem?_drop] at this
    exact this
  · rw [← List.drop_drop, h]
    rfl
theorem drop_cons {bs : List UInt8} {a : Nat} (h : a < bs.length) : ∃ c r, bs.drop a = c :: r := by
  cases hd : bs.drop a with
  | nil =>
    have := List.drop_eq_nil_iff.1 hd
    omega
  | cons c r => exact ⟨c, r, rfl⟩
end Go.Proofs.YtiolfjhddbiglaaGreatDoor
