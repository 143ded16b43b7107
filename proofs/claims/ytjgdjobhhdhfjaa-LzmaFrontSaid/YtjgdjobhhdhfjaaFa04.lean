/-
  RdNums, RdRev, Be, RdBegun, RdNew: put together.
-/
import Derived.Test.YtjgdjobhhdhfjaaFa03
import Derived.LoopTactic
import Derived.Test.YtjgdjobhhdhfjaaFa02
import Derived.Test.YtjgdjobhhdhfjaaRows
import Derived.Laws.MakeOwn
set_option linter.unusedVariables false
set_option linter.unusedSimpArgs false
/-
  The decoder tells numbers: straight, by a tree.
-/
namespace Go.Proofs.Ytjgdjobhhdhfjaa
open Go.RowKit

/-- What a number told straight leaves. -/
def NumPost (w : World) (g f lo : Nat) (bs : List UInt8) (v : Nat) (d : Dc) (e : Ending) (w' : World) : Prop :=
  e = .returned (.int .u32 (v : Int)) ∧ Pd w' g f lo bs d ∧ Only (two f g) w w'

section
variable {g f lo b pc : Nat} {w : World} {bs : List UInt8} {ps : List Nat}

set_option maxRecDepth 100000 in
set_option maxHeartbeats 2000000 in
theorem straight_any {d : Dc} {n : Nat} (h : Pd w g f lo bs d) (hd : DcOk d) (hn : n ≤ 32) :
    Calls Try.prog 132 #[.pointer (some ⟨g, 0, none⟩), .int .i64 (n : Int)] w (NumPost w g f lo bs (straightD n d).1 (straightD n d).2) := by
  have HP := Lib.hid h
  have HD := Lib.hid hd
  clear h hd
  go_enter Try.func132, Try.ntmps132
  go_wp2_with fail
  go_loopw [5, 7] (fun v i wr => ∃ (j x : Nat), j ≤ n ∧ i = .int .i64 (j : Int) ∧ v = .int .u32 (x : Int) ∧ x < 2 ^ j ∧ ((straightGo d j).2 ≠ none → x = (straightGo d j).1) ∧ Pd wr g f lo bs (straightGo d j).2 ∧ Only (two f g) w wr) (fun _ i _ => n - (intOf i).toNat)
  case atStart => exact ⟨0, 0, Nat.zero_le _, rfl, rfl, by decide, fun _ => rfl, HP.out, Only.refl _ _⟩
  case round =>
    clear HP
    obtain ⟨j, x, hj, rfl, rfl, hx, hv, hp, ho⟩ := hrel
    have HV := Lib.hid hv
    have HO := Lib.hid ho
    clear hv ho
    by_cases hlt : j < n
    · have K := Lib.hid (one_any hp (straightGo_ok HD.out j).1)
      have hx31 : x < 2147483648 := Nat.lt_of_lt_of_le hx (Nat.pow_le_pow_right (n := 2) (by omega) (show j ≤ 31 by omega))
      have hx2 : 2 * x + 1 < 2 ^ (j + 1) := by rw [Nat.pow_succ]; omega
      have HX2 := Lib.hid hx2
      have e1 : IntKind.u32.wrap (2 * (x : Int)) = 2 * (x : Int) := u32_of _ (by omega) (by omega)
      have hlt' : (j : Int) < (n : Int) := by omega
      clear hx hx2 hp
      go_wp2_with fail
      refine K.out.mono ?_
      rintro e w1 ⟨v, rfl, hv1, hv2, hp1, ho1⟩
      have e2 : IntKind.u32.wrap (2 * (x : Int) + (v : Int)) = ((2 * x + v : Nat) : Int) := by rw [show 2 * (x : Int) + (v : Int) = ((2 * x + v : Nat) : Int) by omega]; exact u32_of _ (by omega) (by omega)
      have HV2 := Lib.hid hv2
      have HP1 := Lib.hid hp1
      have HO1 := Lib.hid (HO.out.trans ho1)
      clear hv2 hp1 ho1 HO K
      go_wp2_with fail
      go_roundw
      case rel =>
        refine ⟨j + 1, 2 * x + v, by omega, by go_num, rfl, by have := HX2.out; omega, fun h => ?_, HP1.out, HO1.out⟩
        show _ = 2 * (straightGo d j).1 + (oneD (straightGo d j).2).1
        rw [HV2.out h, HV.out (fun h0 => h (by show (oneD (straightGo d j).2).2 = none; rw [h0]; rfl))]
      case measure => simp [intOf]; omega
    · obtain rfl : j = n := by omega
      obtain ⟨at_, r, c, bad, hB, hF, hfg, ht⟩ := hp
      have j3 : wr.cell? ⟨g, 3, none⟩ = some (.bool bad) := hB.cell 3
      have HB := Lib.hid hB
      have HF := Lib.hid hF
      have HT := Lib.hid ht
      clear hB hF ht hx
      cases bad
      · go_wp2_with fail
        go_ret
        refine ⟨?_, ⟨at_, r, c, _, HB.out, HF.out, hfg, HT.out⟩, HO.out⟩
        have hne : (straightGo d j).2 ≠ none := by
          rcases HT.out.2.2.2 with ⟨h, _⟩ | ⟨_, h⟩
          · cases h
          · rw [h]; simp
        unfold straightD
        rw [if_neg hne, ← HV.out hne]
        rfl
      · go_wp2_with fail
        go_ret
        refine ⟨?_, ⟨at_, r, c, _, HB.out, HF.out, hfg, HT.out⟩, HO.out⟩
        have hne : (straightGo d j).2 = none := by
          rcases HT.out.2.2.2 with ⟨_, h⟩ | ⟨h, _⟩
          · exact h
          · cases h
        unfold straightD
        rw [if_pos hne]
        rfl

end
end Go.Proofs.Ytjgdjobhhdhfjaa

/-
  The decoder tells a number by a reverse tree.
-/
namespace Go.Proofs.Ytjgdjobhhdhfjaa
open Go.RowKit

section
variable {g f lo b pc : Nat} {w : World} {bs : List UInt8} {ps : List Nat}

theorem ofInt_u64' (a : Nat) (h : a < 18446744073709551616) : (BitVec.ofInt 64 (a : Int)).toNat = a := by simp; omega
theorem i64_or_nat (a b : Nat) (ha : a < 9223372036854775808) (hb : b < 9223372036854775808) : bits .or .i64 (a : Int) (b : Int) = ((a ||| b : Nat) : Int) := by
  have hx : a ||| b < 2 ^ 63 := Nat.or_lt_two_pow (by omega) (by omega)
  show IntKind.i64.wrap ((BitVec.ofInt 64 (a : Int) ||| BitVec.ofInt 64 (b : Int)).toNat : Int) = _
  rw [BitVec.toNat_or, ofInt_u64' a (by omega), ofInt_u64' b (by omega)]
  exact IntWalk.i64_in _ (by omega)
theorem i64_or_shift (o u j : Nat) (ho : o < 2 ^ j) (hu : u ≤ 1) (hj : j < 8) : bits .or .i64 (o : Int) (wrap64 ((u : Int) * 2 ^ j)) = ((o + u * 2 ^ j : Nat) : Int) := by
  have hp : 2 ^ j ≤ 2 ^ 7 := Nat.pow_le_pow_right (n := 2) (by omega) (show j ≤ 7 by omega)
  have hm : u * 2 ^ j ≤ 1 * 2 ^ j := Nat.mul_le_mul_right _ hu
  have hw : wrap64 (((u * 2 ^ j : Nat) : Int)) = ((u * 2 ^ j : Nat) : Int) := by
    unfold wrap64
    generalize u * 2 ^ j = y at *
    omega
  rw [cast_pow2, ← Int.natCast_mul, hw, i64_or_nat _ _ (by omega) (by omega)]
  congr 1
  rw [Nat.or_comm, nat_join j (u * 2 ^ j) o (Nat.mul_mod_left _ _) ho]
  omega

end
end Go.Proofs.Ytjgdjobhhdhfjaa

/-
  Bytes as a number, the greatest first.
-/
namespace Go.Proofs.Ytjgdjobhhdhfjaa

/-- bytes as a number, the greatest first -/
def be (l : List UInt8) : Nat := l.foldl (fun a b => a * 256 + b.toNat) 0
theorem be_snoc (l : List UInt8) (x : UInt8) : be (l ++ [x]) = be l * 256 + x.toNat := by simp [be]
theorem be_append (l k : List UInt8) : be (l ++ k) = be l * 256 ^ k.length + be k := by
  generalize hn : k.length = n
  induction n generalizing k with
  | zero => rw [List.eq_nil_of_length_eq_zero hn]; simp [be]
  | succ n ih =>
    have hne : k ≠ [] := by intro e; rw [e] at hn; cases hn
    rw [← List.dropLast_concat_getLast hne, ← List.append_assoc, be_snoc, be_snoc, ih k.dropLast (by simp [hn]), Nat.pow_succ, ← Nat.mul_assoc, Nat.add_mul]
    omega
theorem be_lt (l : List UInt8) : ∀ n, l.length = n → be l < 256 ^ n := by
  intro n
  induction n generalizing l with
  | zero => intro h; rw [List.eq_nil_of_length_eq_zero h]; decide
  | succ n ih =>
    intro h
    have hne : l ≠ [] := by intro e; rw [e] at h; cases h
    rw [← List.dropLast_concat_getLast hne, be_snoc, Nat.pow_succ]
    have := ih l.dropLast (by simp [h])
    have := (l.getLast hne).toNat_lt
    omega
/-- the first l of the bytes, and what is behind -/
theorem be_take (bs : List UInt8) (l : Nat) : be (bs.take l) * 256 ^ (bs.length - l) ≤ be bs ∧ be bs < (be (bs.take l) + 1) * 256 ^ (bs.length - l) := by
  have e := be_append (bs.take l) (bs.drop l)
  rw [List.take_append_drop, List.length_drop] at e
  have h := be_lt (bs.drop l) (bs.length - l) (by simp)
  rw [Nat.add_mul]
  omega
theorem be_take_succ {bs : List UInt8} {l : Nat} (h : l < bs.length) : be (bs.take (l + 1)) = be (bs.take l) * 256 + (bs[l]).toNat := by
  rw [List.take_succ_eq_append_getElem h, be_snoc]
end Go.Proofs.Ytjgdjobhhdhfjaa

/-
  How a decoder of ranges begins, as numbers (cut out of RdNew).
-/
namespace Go.Proofs.Ytjgdjobhhdhfjaa

/-- behind the first byte and j more -/
def Begun (bs : List UInt8) (j c : Nat) : Prop := j + 1 ≤ bs.length ∧ (bs.getD 0 0).toNat = 0 ∧ c = be ((bs.drop 1).take j)

theorem started_short {bs : List UInt8} (h : bs.length < 5) : started bs = none := by
  unfold started
  split
  · simp only [List.length_cons] at h; omega
  · rfl
theorem started_head {bs : List UInt8} (h : (bs.getD 0 0).toNat ≠ 0) : started bs = none := by
  unfold started
  split
  · rename_i z a b c d t
    rw [if_neg]
    rintro ⟨h1, _⟩
    exact h h1
  · rfl
theorem started_begun {bs : List UInt8} {c : Nat} (h : Begun bs 4 c) : started bs = if c < 4294967295 then some (4294967295, c, bs.drop 5) else none := by
  obtain ⟨h1, h2, h3⟩ := h
  match bs, h1 with
  | z :: a :: b :: x :: d :: t, _ =>
    have e : c = ((a.toNat * 256 + b.toNat) * 256 + x.toNat) * 256 + d.toNat := by rw [h3]; simp [be]
    have hz : z.toNat = 0 := h2
    show (if z.toNat = 0 ∧ ((a.toNat * 256 + b.toNat) * 256 + x.toNat) * 256 + d.toNat < 4294967295 then some (4294967295, ((a.toNat * 256 + b.toNat) * 256 + x.toNat) * 256 + d.toNat, t) else none) = if c < 4294967295 then some (4294967295, c, t) else none
    rw [← e]
    by_cases hc : c < 4294967295
    · rw [if_pos ⟨hz, hc⟩, if_pos hc]
    · rw [if_neg (fun h => hc h.2), if_neg hc]
theorem begun_next {bs : List UInt8} {j c : Nat} {x : UInt8} {t : List UInt8} (h : Begun bs j c) (hd : bs.drop (j + 1) = x :: t) : Begun bs (j + 1) (c * 256 + x.toNat) := by
  obtain ⟨h1, h2, h3⟩ := h
  have hlt : j + 1 < bs.length := by
    rcases Nat.lt_or_ge (j + 1) bs.length with h | h
    · exact h
    · rw [List.drop_eq_nil_of_le h] at hd; cases hd
  have hx : bs[j + 1] = x := by
    have := List.drop_eq_getElem_cons hlt
    rw [hd] at this
    injection this with this
    exact this.symm
  refine ⟨hlt, h2, ?_⟩
  have hl : j < (bs.drop 1).length := by rw [List.length_drop]; omega
  rw [List.take_succ_eq_append_getElem hl, be_snoc, ← h3, List.getElem_drop]
  congr 2
  rw [← hx]
  congr 1
  simp only [Nat.add_comm]
theorem begun_lt {bs : List UInt8} {j c : Nat} (h : Begun bs j c) : c < 256 ^ j := by
  rw [h.2.2]
  refine be_lt _ _ ?_
  rw [List.length_take, List.length_drop]
  have := h.1
  omega

theorem info_u16 : (Try.prog.info? 25).map (fun i => (i.zero, i.size, i.bytes)) = some (some (.int .u16 0), 1, 2) := by kernel_rfl
end Go.Proofs.Ytjgdjobhhdhfjaa

/-
  A decoder begins; fresh probabilities.
-/
namespace Go.Proofs.Ytjgdjobhhdhfjaa
open Go.RowKit

/-- What stands behind the first byte and j shifts. -/
def OnWay (w : World) (g f lo : Nat) (bs : List UInt8) (j : Nat) : Prop :=
  ∃ at_ c bad, Blk w g 128 (pdCells f 4294967295 c bad) ∧ Feed w f lo bs at_ ∧ c < 4294967296 ∧ ((bad = true ∧ started bs = none) ∨ (bad = false ∧ at_ = j + 1 ∧ Begun bs j c))

/-- A shift on the way. -/
theorem onway_any {w : World} {g f lo j : Nat} {bs : List UInt8} (h : OnWay w g f lo bs j) (hfg : f < g) (hj : j < 4) :
    Calls Try.prog 71 #[.pointer (some ⟨g, 0, none⟩)] w fun e w' => e = .returned (.tuple #[]) ∧ OnWay w' g f lo bs (j + 1) ∧ Only (two f g) w w' := by
  obtain ⟨at_, c, bad, hB, hF, hc, h0⟩ := h
  rcases h0 with ⟨rfl, h0⟩ | ⟨rfl, rfl, h0⟩
  · refine (shift_bad hB).mono ?_
    rintro e w' ⟨rfl, rfl⟩
    exact ⟨rfl, ⟨at_, c, true, hB, hF, hc, .inl ⟨rfl, h0⟩⟩, Only.refl _ _⟩
  · have hc4 : c < 16777216 := Nat.lt_of_lt_of_le (begun_lt h0) (Nat.pow_le_pow_right (n := 256) (by omega) (show j ≤ 3 by omega))
    refine (shift_any hB hF hfg hc4).mono ?_
    rintro e w' ⟨rfl, at', c', bad', h1, h2, h3, h4⟩
    refine ⟨rfl, ⟨at', c', bad', h1, h2, ?_, ?_⟩, h3⟩
    · rcases h4 with ⟨_, rfl, _⟩ | ⟨x, _, rfl, _⟩
      · exact hc
      · have := x.toNat_lt; omega
    · rcases h4 with ⟨rfl, rfl, h5⟩ | ⟨x, rfl, rfl, h5⟩
      · refine .inl ⟨rfl, started_short ?_⟩
        have := List.drop_eq_nil_iff.1 h5
        omega
      · refine .inr ⟨rfl, ?_, begun_next h0 h5⟩
        have hl := congrArg List.length h5
        simp only [List.length_cons, List.length_drop] at hl
        have := hF.le
        have := h2.le
        have := (begun_next h0 h5).1
        omega

set_option maxRecDepth 100000 in
set_option maxHeartbeats 4000000 in
theorem pnew_any {w : World} {f lo : Nat} {bs : List UInt8} (hF : Feed w f lo bs 0) :
    Calls Try.prog 41 #[.iface 35 (.pointer (some ⟨f, 0, none⟩))] w fun e w' =>
      e = .returned (.pointer (some ⟨w.heap.size, 0, none⟩)) ∧ Pd w' w.heap.size f lo bs (started bs) ∧ Only (fun i => i = f) w w' := by
  have hfg := hF.lt
  have HF := Lib.hid hF
  have hlo := hF.lo
  clear hF
  go_enter Try.func41, Try.ntmps41
  go_wp2_with fail
  have hB0 : Blk (w.alloc (.cells #[.iface 35 (.pointer (some ⟨f, 0, none⟩)), .int .u32 4294967295, .int .u32 0, .bool false] 128)) w.heap.size 128 (pdCells f 4294967295 0 false) := Blk.fresh _ _ _
  have hO0 : Only (fun i => i = f) w (w.alloc (.cells #[.iface 35 (.pointer (some ⟨f, 0, none⟩)), .int .u32 4294967295, .int .u32 0, .bool false] 128)) := (Only.refl _ w).alloc _
  have hF0 := HF.out.only ((Only.refl (fun _ => False) w).alloc (.cells #[.iface 35 (.pointer (some ⟨f, 0, none⟩)), .int .u32 4294967295, .int .u32 0, .bool false] 128)) (fun i hi => hi.elim)
  generalize hg : w.heap.size = g at *
  have HG := Lib.hid hg
  clear hg
  refine (shift_any hB0 hF0 hfg (by omega)).mono ?_
  rintro e w1 ⟨rfl, at1, c1, bad1, hB1, hF1, hO1, h1⟩
  have HO1 := Lib.hid (hO0.trans' hO1 (fun i hi => by have := HG.out; rcases hi with hi | hi; exact .inl hi; exact .inr (by omega)))
  have j2 : w1.cell? ⟨g, 2, none⟩ = some (.int .u32 (c1 : Int)) := hB1.cell 2
  have HB1 := Lib.hid (fun so => refuse_any (so := so) hB1)
  have HF1 := Lib.hid hF1
  have H1 := Lib.hid h1
  have hc1 : c1 < 4294967296 := by
    rcases h1 with ⟨_, rfl, _⟩ | ⟨x, _, rfl, _⟩
    · omega
    · have := x.toNat_lt; omega
  have HC1 := Lib.hid hc1
  clear hB0 hF0 hO0 hB1 hF1 hO1 h1 HF hc1
  go_wp2_with fail
  refine (HB1.out _).mono ?_
  rintro e w2 ⟨rfl, hB2, hg2⟩
  have hS2 := Only.of_grown (S := fun i => i = g) hg2 rfl
  have hw2 : OnWay w2 g f lo bs 0 := by
    have hF2 := HF1.out.only hS2 (fun i hi => by omega)
    refine ⟨at1, c1, _, hB2, hF2, HC1.out, ?_⟩
    rcases H1.out with ⟨rfl, rfl, h⟩ | ⟨x, rfl, rfl, h⟩
    · refine .inl ⟨rfl, started_short ?_⟩
      have := congrArg List.length h
      simp only [List.length_drop, List.length_nil] at this
      omega
    · have hx : bs.getD 0 0 = x := by
        cases bs with
        | nil => cases h
        | cons y t => injection h with h _
      have hl := congrArg List.length h
      simp only [List.length_cons, List.length_drop] at hl
      have hle := hF2.le
      by_cases h0 : x.toNat = 0
      · refine .inr ⟨by simp [h0], by omega, by omega, by rw [hx]; exact h0, by simp [be, h0]⟩
      · exact .inl ⟨by simp; omega, started_head (by rw [hx]; exact h0)⟩
  have HW2 := Lib.hid hw2
  have HO2 := Lib.hid (HO1.out.trans' hS2 (fun i hi => .inr (by have := HG.out; omega)))
  clear hB2 hg2 hS2 HB1 HF1 H1 HO1 HC1 j2 hw2
  go_wp2_with fail
  go_loopw [18] (fun i wr => ∃ j : Nat, j ≤ 4 ∧ i = .int .i64 (j : Int) ∧ OnWay wr g f lo bs j ∧ Only (fun i => i = f) w wr) (fun i _ => 4 - (intOf i).toNat)
  case atStart => exact ⟨0, by omega, rfl, HW2.out, HO2.out⟩
  case round =>
    clear HW2 HO2
    obtain ⟨j, hj, rfl, hw, ho⟩ := hrel
    by_cases hlt : j < 4
    · have K := Lib.hid (onway_any hw hfg hlt)
      have HO := Lib.hid ho
      have hlt' : (j : Int) < 4 := by omega
      clear hw ho
      go_wp2_with fail
      refine K.out.mono ?_
      rintro e w3 ⟨rfl, hw3, ho3⟩
      have HW3 := Lib.hid hw3
      have HO3 := Lib.hid (HO.out.trans' ho3 (fun i hi => by have := HG.out; rcases hi with hi | hi; exact .inl hi; exact .inr (by omega)))
      clear hw3 ho3
      go_wp2_with fail
      go_roundw
      case rel => exact ⟨j + 1, by omega, by go_num, HW3.out, HO3.out⟩
      case measure => simp [intOf]; omega
    · obtain rfl : j = 4 := by omega
      obtain ⟨at_, c, bad, hB, hF, hc, h0⟩ := hw
      have j1 : wr.drew.cell? ⟨g, 1, none⟩ = some (.int .u32 4294967295) := hB.cell 1
      have j2 : wr.drew.cell? ⟨g, 2, none⟩ = some (.int .u32 (c : Int)) := hB.cell 2
      have HB := Lib.hid (fun so => refuse_any (so := so) (show Blk wr.drew g 128 (pdCells f 4294967295 c bad) from hB))
      have HF := Lib.hid (show Feed wr.drew f lo bs at_ from hF)
      have HO := Lib.hid (ho.drew)
      have H0 := Lib.hid h0
      have HC := Lib.hid hc
      clear hB hF ho h0 hc
      go_wp2_with fail
      go_still_tail 10, (by kernel_rfl)
      change wpList _ _ _ _ _ wr.drew
      generalize wr.drew = w2 at *
      go_wp2_with fail
      refine (HB.out _).mono ?_
      rintro e w3 ⟨rfl, hB3, hg3⟩
      have HB3 := Lib.hid hB3
      have HG3 := Lib.hid (Only.of_grown (S := fun i => i = g) hg3 rfl)
      clear hB3 hg3
      go_wp2_with fail
      go_ret
      rw [HG.out]
      refine ⟨rfl, ⟨at_, 4294967295, c, _, HB3.out, HF.out.only HG3.out (fun i hi => by omega), hfg, HF.out.le, by omega, HC.out, ?_⟩, HO.out.trans' HG3.out (fun i hi => .inr (by have := HG.out; omega))⟩
      rcases H0.out with ⟨rfl, h⟩ | ⟨rfl, rfl, h⟩
      · exact .inl ⟨rfl, h⟩
      · rw [started_begun h]
        by_cases hcc : c < 4294967295
        · rw [if_pos hcc]
          exact .inr ⟨by simp; omega, rfl⟩
        · rw [if_neg hcc]
          exact .inl ⟨by simp; omega, rfl⟩


theorem madeNums (n : Nat) : (madeCells #[Value.int .u16 0] n).toList = pv (List.replicate n 0) := by
  rw [toList_madeCells_one]
  simp [pv]

set_option maxRecDepth 100000 in
set_option maxHeartbeats 2000000 in
theorem fresh_any {n : Nat} (hn : n ≤ 1000000) (w : World) :
    Calls Try.prog 99 #[.int .i64 (n : Int)] w fun e w' =>
      e = .returned (.slice (some ⟨w.heap.size, 0, none⟩) n n) ∧ Row w' w.heap.size (List.replicate n 1024) n ∧ Below w.heap.size w w' := by
  obtain ⟨i, hi, hz0, hz1, hz2⟩ := info_parts info_u16
  have h0 : ¬ (n : Int) < 0 := by omega
  have h1 : ¬ (n : Int) > 2147483647 := by omega
  go_enter Try.func99, Try.ntmps99
  go_wp2_with (first
      | (at_make; refine wpList_make_full _ rfl _ _ 68 rfl w.heap.size 25 i _ 1 Try.underlying68 hi hz0 hz1 _ _ _ _ n rfl rfl rfl rfl ?b1 ?b2 (by simp) ?_))
  case b1 => omega
  case b2 => unfold maxLen; omega
  intro w2 ho hg
  rw [madeNums] at ho
  have HO := Lib.hid ho
  have HG := Lib.hid (only_none hg)
  clear ho hg
  go_wp2_with fail
  go_loopw [4, 14] (fun _ k wr => ∃ j : Nat, j ≤ n ∧ k = .int .i64 (j : Int) ∧ wr.ownsRow w.heap.size 25 1 (.slice (some ⟨w.heap.size, 0, none⟩) n n) n (pv (List.replicate j 1024 ++ List.replicate (n - j) 0)) ∧ Below w.heap.size w wr) (fun _ k _ => n - (intOf k).toNat)
  case atStart => exact ⟨0, by omega, rfl, by simpa using HO.out, HG.out⟩
  case round =>
    clear HO HG
    obtain ⟨j, hj, rfl, ho, hb⟩ := hrel
    have HO := Lib.hid ho
    have HG := Lib.hid hb
    clear ho hb
    by_cases hlt : j < n
    · have hfree := HO.out.frozenAt j
      have hl2 : (pv (List.replicate j 1024 ++ List.replicate (n - j) 0)).length = n := by rw [pv_length]; simp; omega
      obtain ⟨old, hold⟩ : ∃ u, wr.cell? ⟨w.heap.size, j, none⟩ = some u := by
        rw [HO.out.cellAt j (by omega), List.getElem?_eq_getElem (by omega)]
        exact ⟨_, rfl⟩
      have i1 : (j : Int) < (n : Int) := by omega
      have i0 : (0 : Int) ≤ (j : Int) := by omega
      have HN := Lib.hid (show (pv (List.replicate j 1024 ++ List.replicate (n - j) 0)).set j (.int .u16 1024) = pv (List.replicate (j + 1) 1024 ++ List.replicate (n - (j + 1)) 0) by
        obtain ⟨m, hm⟩ : ∃ m, n - j = m + 1 := ⟨n - j - 1, by omega⟩
        rw [show n - (j + 1) = m by omega, hm, List.replicate_succ, show (Value.int .u16 1024) = .int .u16 ((1024 : Nat) : Int) from rfl, pv_set, List.set_append_right _ _ (by simp), List.length_replicate, Nat.sub_self, List.set_cons_zero, List.replicate_succ']
        simp)
      clear hl2
      go_wp2_with fail
      go_roundw
      case rel =>
        refine ⟨j + 1, by omega, by go_num, ?_, HG.out.setCell (by simp) _⟩
        have ho := (HO.out.stored j (.int .u16 1024)).1
        rw [HN.out] at ho
        exact ho
      case measure => simp [intOf]; omega
    · obtain rfl : j = n := by omega
      go_wp2_with fail
      go_ret
      refine ⟨rfl, ?_, HG.out⟩
      have ho := HO.out
      rw [Nat.sub_self, List.replicate_zero, List.append_nil] at ho
      unfold Row
      rw [List.length_replicate]
      exact own_mono ho (Nat.zero_le _)
end Go.Proofs.Ytjgdjobhhdhfjaa
