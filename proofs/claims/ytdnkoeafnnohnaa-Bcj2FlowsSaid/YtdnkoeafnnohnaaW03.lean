/-
  RdBit, RdRf, Be, RdBegun, Prow, RdFrs, RdBegin, AppO: put together.
-/
import Derived.Test.YtdnkoeafnnohnaaW02
import Derived.Test.YtdnkoeafnnohnaaW01
import Derived.Test.YtdnkoeafnnohnaaRows
import Derived.Deep.AppendLies
import Derived.Tactics
import Derived.Tactics2
import Derived.LoopTactic
set_option linter.unusedVariables false
set_option linter.unusedSimpArgs false
/-
  The reference's decoder tells a bit.
-/
namespace Go.Proofs.Ytdnkoeafnnohnaa
open Go.RowKit

section
variable {g c at_ r k p : Nat} {A : Option Addr} {w : World} {bs : List UInt8}

set_option maxHeartbeats 1000000 in
theorem rbit_bad {n : Nat} (hB : Blk w g 51 (decCells A n c at_ r k true)) :
    Calls Try.prog 22 #[.pointer (some ⟨g, 0, none⟩), .int .u16 (p : Int)] w fun e w' => e = .returned (.tuple #[.int .i64 0, .int .u16 (p : Int)]) ∧ w = w' := by
  have h4 : w.cell? ⟨g, 4, none⟩ = some (.bool true) := hB.cell 4
  clear hB
  go_enter Try.func22, Try.ntmps22
  go_wp2_with fail
  go_ret2
  exact ⟨rfl, rfl⟩

theorem wrap_u16 (x : Int) (h : 0 ≤ x ∧ x < 65536) : IntKind.u16.wrap x = x := by
  simp [IntKind.wrap, IntKind.bits, IntKind.signed]
  omega

set_option maxHeartbeats 2000000 in
theorem rbit_zero {z : Nat} (hz : z = r / 2048 * p) (hB : Blk w g 51 (decCells A bs.length c at_ r k false)) (hS : Sl w A bs.length (bv bs)) (ha : at_ ≤ bs.length) (hn : bs.length ≤ 1000000000)
    (hne : 0 < bs.length → ∀ b o, A = some ⟨b, o, none⟩ → b ≠ g) (hr0 : 16777216 ≤ r) (hr : r < 4294967296) (hp : POk p) (hlt : k < z) :
    Calls Try.prog 22 #[.pointer (some ⟨g, 0, none⟩), .int .u16 (p : Int)] w fun e w' => e = .returned (.tuple #[.int .i64 0, .int .u16 (up0 p : Int)]) ∧
      ∃ at' r' k' bad', Blk w' g 51 (decCells A bs.length c at' r' k' bad') ∧ Tells bs (lvl z k (bs.drop at_)) at' r' k' bad' ∧ w.grownBy w' (some g) := by
  obtain ⟨b0, b1⟩ := bound_in hr0 hr hp
  rw [← hz] at b0 b1
  obtain ⟨p0, p1⟩ := hp
  have h2 : w.cell? ⟨g, 2, none⟩ = some (.int .u64 (r : Int)) := hB.cell 2
  have h3 : w.cell? ⟨g, 3, none⟩ = some (.int .u64 (k : Int)) := hB.cell 3
  have h4 : w.cell? ⟨g, 4, none⟩ = some (.bool false) := hB.cell 4
  have f2 : w.frozen? ⟨g, 2, none⟩ = false := hB.free 2
  have e1 : IntKind.u64.wrap ((r : Int) / 2048 * (p : Int)) = (z : Int) := by
    rw [show (r : Int) / 2048 * (p : Int) = (z : Int) by rw [hz]; simp]
    exact u64_in _ (by omega)
  have hlt' : (k : Int) < (z : Int) := by omega
  clear hz
  have e2 : IntKind.u16.wrap (2048 - (p : Int)) = 2048 - (p : Int) := wrap_u16 _ (by omega)
  obtain ⟨u, hu⟩ : ∃ u, u = (2048 - p) / 32 := ⟨_, rfl⟩
  have e3 : IntKind.u16.wrap ((2048 - (p : Int)).tdiv 32) = (u : Int) := by
    rw [Int.tdiv_eq_ediv_of_nonneg (by omega), show (2048 - (p : Int)) / 32 = (u : Int) by omega]
    exact wrap_u16 _ (by omega)
  have e5 : IntKind.u16.wrap ((p : Int) + (u : Int)) = (p : Int) + (u : Int) := wrap_u16 _ (by omega)
  have HUP := Lib.hid (show ((up0 p : Nat) : Int) = (p : Int) + (u : Int) by unfold up0; omega)
  clear hu
  have hg1 : w.grownBy (w.setCell ⟨g, 2, none⟩ (.int .u64 (z : Int))) (some g) := only_setCell (World.grownBy.refl w _) (.inl rfl) _
  have K := Lib.hid (level_any (hB.put 2 (.int .u64 (z : Int)) : Blk _ g 51 (decCells A bs.length c at_ z k false)) (hS.grown hg1 hne) ha hn hne (by omega) (by omega) (fun _ => hlt))
  have HG1 := Lib.hid hg1
  clear hB hS hne hg1
  go_enter Try.func22, Try.ntmps22
  go_wp2_with fail
  refine K.out.mono ?_
  rintro e w1 ⟨rfl, at', r', k', bad', hB1, ht, hg⟩
  have HB1 := Lib.hid hB1
  have HT := Lib.hid ht
  have HG := Lib.hid hg
  clear hB1 ht hg
  go_wp2_with fail
  go_ret2
  refine ⟨?_, at', r', k', bad', HB1.out, ?_, only_trans HG1.out HG.out⟩
  · rw [HUP.out]
    rfl
  · have := HT.out
    rwa [if_neg (by simp)] at this

/-- What a bit leaves: behind a definition, so that no walk looks into it. -/
def BitPost (w : World) (g c : Nat) (A : Option Addr) (bs : List UInt8) (b q : Nat) (d : Dc) (e : Ending) (w' : World) : Prop :=
  e = .returned (.tuple #[.int .i64 (b : Int), .int .u16 (q : Int)]) ∧ ∃ at' r' k' bad', Blk w' g 51 (decCells A bs.length c at' r' k' bad') ∧ Tells bs d at' r' k' bad' ∧ w.grownBy w' (some g)

set_option maxHeartbeats 2000000 in
theorem rbit_one {z b : Nat} {d1 : Dc} (hd1 : lvl (r - z) (k - z) (bs.drop at_) = d1) (hb1 : b = if d1 = none then 0 else 1) (hz : z = r / 2048 * p) (hB : Blk w g 51 (decCells A bs.length c at_ r k false)) (hS : Sl w A bs.length (bv bs)) (ha : at_ ≤ bs.length) (hn : bs.length ≤ 1000000000)
    (hne : 0 < bs.length → ∀ b o, A = some ⟨b, o, none⟩ → b ≠ g) (hr0 : 16777216 ≤ r) (hr : r < 4294967296) (hk : k < r) (hp : POk p) (hlt : ¬ k < z) :
    Calls Try.prog 22 #[.pointer (some ⟨g, 0, none⟩), .int .u16 (p : Int)] w (BitPost w g c A bs b (up1 p) d1) := by
  obtain ⟨b0, b1⟩ := bound_in hr0 hr hp
  rw [← hz] at b0 b1
  obtain ⟨p0, p1⟩ := hp
  have h2 : w.cell? ⟨g, 2, none⟩ = some (.int .u64 (r : Int)) := hB.cell 2
  have h3 : w.cell? ⟨g, 3, none⟩ = some (.int .u64 (k : Int)) := hB.cell 3
  have h4 : w.cell? ⟨g, 4, none⟩ = some (.bool false) := hB.cell 4
  have f2 : w.frozen? ⟨g, 2, none⟩ = false := hB.free 2
  have f3 : w.frozen? ⟨g, 3, none⟩ = false := hB.free 3
  have e1 : IntKind.u64.wrap ((r : Int) / 2048 * (p : Int)) = (z : Int) := by
    rw [show (r : Int) / 2048 * (p : Int) = (z : Int) by rw [hz]; simp]
    exact u64_in _ (by omega)
  have hlt' : ¬ (k : Int) < (z : Int) := by omega
  clear hz
  have e2 : IntKind.u64.wrap ((k : Int) - (z : Int)) = ((k - z : Nat) : Int) := by rw [show (k : Int) - (z : Int) = ((k - z : Nat) : Int) by omega]; exact u64_in _ (by omega)
  have e3 : IntKind.u64.wrap ((r : Int) - (z : Int)) = ((r - z : Nat) : Int) := by rw [show (r : Int) - (z : Int) = ((r - z : Nat) : Int) by omega]; exact u64_in _ (by omega)
  have e4 : IntKind.u16.wrap ((p : Int) - (p : Int) / 32) = (p : Int) - (p : Int) / 32 := wrap_u16 _ (by omega)
  have hg1 : w.grownBy ((w.setCell ⟨g, 3, none⟩ (.int .u64 ((k - z : Nat) : Int))).setCell ⟨g, 2, none⟩ (.int .u64 ((r - z : Nat) : Int))) (some g) := only_setCell (g := g) (p := ⟨g, 2, none⟩) (only_setCell (g := g) (p := ⟨g, 3, none⟩) (World.grownBy.refl w _) (.inl rfl) _) (.inl rfl) _
  have K := Lib.hid (level_any ((hB.put 3 (.int .u64 ((k - z : Nat) : Int))).put 2 (.int .u64 ((r - z : Nat) : Int)) : Blk _ g 51 (decCells A bs.length c at_ (r - z) (k - z) false)) (hS.grown hg1 hne) ha hn hne (by omega) (by omega) (fun _ => by omega))
  have HG1 := Lib.hid hg1
  have HUP := Lib.hid (show ((up1 p : Nat) : Int) = (p : Int) - (p : Int) / 32 by unfold up1; omega)
  have HB1 := Lib.hid hb1
  clear hB hS hne hg1 hb1
  generalize r - z = r1 at *
  generalize k - z = k1 at *
  have HD1 := Lib.hid hd1
  clear hd1
  go_enter Try.func22, Try.ntmps22
  go_wp2_with fail
  refine K.out.mono ?_
  rintro e w1 ⟨rfl, at', r', k', bad', hB1, ht, hg⟩
  rw [if_neg (by simp), HD1.out] at ht
  have j4 : w1.cell? ⟨g, 4, none⟩ = some (.bool bad') := hB1.cell 4
  have HBK := Lib.hid hB1
  have HT := Lib.hid ht
  have HG := Lib.hid hg
  clear hB1 ht hg
  cases bad'
  · go_wp2_with fail
    go_ret2
    refine ⟨?_, at', r', k', false, HBK.out, HT.out, only_trans HG1.out HG.out⟩
    have hn : ¬ d1 = none := by
      rcases HT.out.2.2.2 with ⟨h, _⟩ | ⟨_, h⟩
      · cases h
      · rw [h]; simp
    rw [HUP.out, HB1.out, if_neg hn]
    rfl
  · go_wp2_with fail
    go_ret2
    refine ⟨?_, at', r', k', true, HBK.out, HT.out, only_trans HG1.out HG.out⟩
    have hn : d1 = none := by
      rcases HT.out.2.2.2 with ⟨_, h⟩ | ⟨h, _⟩
      · exact h
      · cases h
    rw [HUP.out, HB1.out, if_pos hn]
    rfl

/-- A bit, as the model tells it. -/
theorem rbit_any {d : Dc} {bad : Bool} (hB : Blk w g 51 (decCells A bs.length c at_ r k bad)) (ht : Tells bs d at_ r k bad) (hS : Sl w A bs.length (bv bs)) (hn : bs.length ≤ 1000000000)
    (hne : 0 < bs.length → ∀ b o, A = some ⟨b, o, none⟩ → b ≠ g) (hd : DcOk d) (hp : POk p) :
    Calls Try.prog 22 #[.pointer (some ⟨g, 0, none⟩), .int .u16 (p : Int)] w fun e w' => e = .returned (.tuple #[.int .i64 ((bitD d p).1 : Int), .int .u16 ((bitD d p).2.1 : Int)]) ∧
      ∃ at' r' k' bad', Blk w' g 51 (decCells A bs.length c at' r' k' bad') ∧ Tells bs (bitD d p).2.2 at' r' k' bad' ∧ w.grownBy w' (some g) := by
  obtain ⟨ha, hr, hk, hc⟩ := ht
  rcases hc with ⟨rfl, rfl⟩ | ⟨rfl, rfl⟩
  · refine (rbit_bad hB).mono ?_
    rintro e w' ⟨rfl, rfl⟩
    exact ⟨rfl, at_, r, k, true, hB, ⟨ha, hr, hk, .inl ⟨rfl, rfl⟩⟩, World.grownBy.refl w _⟩
  · obtain ⟨h0, h1, h2⟩ := hd _ _ _ rfl
    unfold bitD
    simp only []
    by_cases hlt : k < r / 2048 * p
    · rw [if_pos hlt]
      exact rbit_zero rfl hB hS ha hn hne h0 hr hp hlt
    · rw [if_neg hlt]
      refine (rbit_one rfl rfl rfl hB hS ha hn hne h0 hr h2 hp hlt).mono ?_
      rintro e w' ⟨rfl, at', r', k', bad', h3, h4, h5⟩
      cases hl : lvl (r - r / 2048 * p) (k - r / 2048 * p) (bs.drop at_) with
      | none =>
        rw [hl] at h4
        exact ⟨rfl, at', r', k', bad', h3, h4, h5⟩
      | some t =>
        rw [hl] at h4
        exact ⟨rfl, at', r', k', bad', h3, h4, h5⟩
end
end Go.Proofs.Ytdnkoeafnnohnaa

/-
  The reference's decoder, its state alone: a bit, and bits straight.
-/
namespace Go.Proofs.Ytdnkoeafnnohnaa
open Go.RowKit

/-- Block g is the reference's decoder; its state is d. -/
def Rf (w : World) (g : Nat) (A : Option Addr) (c : Nat) (bs : List UInt8) (d : Dc) : Prop :=
  ∃ at_ r k bad, Blk w g 51 (decCells A bs.length c at_ r k bad) ∧ Tells bs d at_ r k bad
theorem Rf.lt {w : World} {g c : Nat} {A : Option Addr} {bs : List UInt8} {d : Dc} (h : Rf w g A c bs d) : g < w.heap.size := by
  obtain ⟨_, _, _, _, hB, _⟩ := h
  exact hB.lt
theorem Rf.only {S : Nat → Prop} {w w' : World} {g c : Nat} {A : Option Addr} {bs : List UInt8} {d : Dc} (h : Rf w g A c bs d) (hb : Only S w w') (hS : ¬ S g) : Rf w' g A c bs d := by
  obtain ⟨at_, r, k, bad, hB, ht⟩ := h
  exact ⟨at_, r, k, bad, hB.only hb hS, ht⟩

/-- What a number told straight leaves. -/
def RnPost (w : World) (g c : Nat) (A : Option Addr) (bs : List UInt8) (v : Nat) (d : Dc) (e : Ending) (w' : World) : Prop :=
  e = .returned (.int .u32 (v : Int)) ∧ Rf w' g A c bs d ∧ w.grownBy w' (some g)

/-- Bit, as a tree uses it. -/
theorem rfbit_any {w : World} {g c p : Nat} {A : Option Addr} {bs : List UInt8} {d : Dc} (h : Rf w g A c bs d) (hS : Sl w A bs.length (bv bs)) (hn : bs.length ≤ 1000000000) (hA : 0 < bs.length → ∀ q o, A = some ⟨q, o, none⟩ → q ≠ g) (hd : DcOk d) (hp : POk p) :
    Calls Try.prog 22 #[.pointer (some ⟨g, 0, none⟩), .int .u16 (p : Int)] w fun e w' => e = .returned (.tuple #[.int .i64 ((bitD d p).1 : Int), .int .u16 ((bitD d p).2.1 : Int)]) ∧ Rf w' g A c bs (bitD d p).2.2 ∧ w.grownBy w' (some g) := by
  obtain ⟨at_, r, k, bad, hB, ht⟩ := h
  refine (rbit_any hB ht hS hn hA hd hp).mono ?_
  rintro e w' ⟨rfl, at', r', k', bad', h1, h2, h3⟩
  exact ⟨rfl, ⟨at', r', k', bad', h1, h2⟩, h3⟩
end Go.Proofs.Ytdnkoeafnnohnaa

/-
  Bytes as a number, the greatest first.
-/
namespace Go.Proofs.Ytdnkoeafnnohnaa

/-- bytes as a number, the greatest first -/
def be (l : List UInt8) : Nat := l.foldl (fun a b => a * 256 + b.toNat) 0
theorem be_snoc (l : List UInt8) (x : UInt8) : be (l ++ [x]) = be l * 256 + x.toNat := by simp [be]
theorem be_append (l k : List UInt8) : be (l ++ k) = be l * 256 ^ k.length + be k := by
  generalize hn : k.length = n
  induction n generalizing k with
  | zero => rw [List.eq_nil_of_length_eq_zero hn]; simp [be]
  | succ n ih =>
    have hne : k ≠ [] := by intro e; rw [e] at hn; cases hn
    rw [← List.dropLast_concat_getLast hne, ← List.append_assoc, be_snoc, be_snoc, ih k.dropLast (by simp [hn]), Nat.pow_succ, ← Nat.mul_assoc, Nat.add_mul]
    omega
theorem be_lt (l : List UInt8) : ∀ n, l.length = n → be l < 256 ^ n := by
  intro n
  induction n generalizing l with
  | zero => intro h; rw [List.eq_nil_of_length_eq_zero h]; decide
  | succ n ih =>
    intro h
    have hne : l ≠ [] := by intro e; rw [e] at h; cases h
    rw [← List.dropLast_concat_getLast hne, be_snoc, Nat.pow_succ]
    have := ih l.dropLast (by simp [h])
    have := (l.getLast hne).toNat_lt
    omega
theorem be_zeros (n : Nat) : be (List.replicate n 0) = 0 := by
  induction n with
  | zero => rfl
  | succ n ih => rw [List.replicate_succ', be_snoc, ih]; rfl
/-- the first l of the bytes, and what is behind -/
theorem be_take (bs : List UInt8) (l : Nat) : be (bs.take l) * 256 ^ (bs.length - l) ≤ be bs ∧ be bs < (be (bs.take l) + 1) * 256 ^ (bs.length - l) := by
  have e := be_append (bs.take l) (bs.drop l)
  rw [List.take_append_drop, List.length_drop] at e
  have h := be_lt (bs.drop l) (bs.length - l) (by simp)
  rw [Nat.add_mul]
  omega
theorem be_take_succ {bs : List UInt8} {l : Nat} (h : l < bs.length) : be (bs.take (l + 1)) = be (bs.take l) * 256 + (bs[l]).toNat := by
  rw [List.take_succ_eq_append_getElem h, be_snoc]
end Go.Proofs.Ytdnkoeafnnohnaa

/-
  How a decoder of ranges begins, as numbers (cut out of RdNew).
-/
namespace Go.Proofs.Ytdnkoeafnnohnaa

/-- behind the first byte and j more -/
def Begun (bs : List UInt8) (j c : Nat) : Prop := j + 1 ≤ bs.length ∧ (bs.getD 0 0).toNat = 0 ∧ c = be ((bs.drop 1).take j)

theorem started_short {bs : List UInt8} (h : bs.length < 5) : started bs = none := by
  unfold started
  split
  · simp only [List.length_cons] at h; omega
  · rfl
theorem started_head {bs : List UInt8} (h : (bs.getD 0 0).toNat ≠ 0) : started bs = none := by
  unfold started
  split
  · rename_i z a b c d t
    rw [if_neg]
    rintro ⟨h1, _⟩
    exact h h1
  · rfl
theorem started_begun {bs : List UInt8} {c : Nat} (h : Begun bs 4 c) : started bs = if c < 4294967295 then some (4294967295, c, bs.drop 5) else none := by
  obtain ⟨h1, h2, h3⟩ := h
  match bs, h1 with
  | z :: a :: b :: x :: d :: t, _ =>
    have e : c = ((a.toNat * 256 + b.toNat) * 256 + x.toNat) * 256 + d.toNat := by rw [h3]; simp [be]
    have hz : z.toNat = 0 := h2
    show (if z.toNat = 0 ∧ ((a.toNat * 256 + b.toNat) * 256 + x.toNat) * 256 + d.toNat < 4294967295 then some (4294967295, ((a.toNat * 256 + b.toNat) * 256 + x.toNat) * 256 + d.toNat, t) else none) = if c < 4294967295 then some (4294967295, c, t) else none
    rw [← e]
    by_cases hc : c < 4294967295
    · rw [if_pos ⟨hz, hc⟩, if_pos hc]
    · rw [if_neg (fun h => hc h.2), if_neg hc]
theorem begun_next {bs : List UInt8} {j c : Nat} {x : UInt8} {t : List UInt8} (h : Begun bs j c) (hd : bs.drop (j + 1) = x :: t) : Begun bs (j + 1) (c * 256 + x.toNat) := by
  obtain ⟨h1, h2, h3⟩ := h
  have hlt : j + 1 < bs.length := by
    rcases Nat.lt_or_ge (j + 1) bs.length with h | h
    · exact h
    · rw [List.drop_eq_nil_of_le h] at hd; cases hd
  have hx : bs[j + 1] = x := by
    have := List.drop_eq_getElem_cons hlt
    rw [hd] at this
    injection this with this
    exact this.symm
  refine ⟨hlt, h2, ?_⟩
  have hl : j < (bs.drop 1).length := by rw [List.length_drop]; omega
  rw [List.take_succ_eq_append_getElem hl, be_snoc, ← h3, List.getElem_drop]
  congr 2
  rw [← hx]
  congr 1
  simp only [Nat.add_comm]
theorem begun_lt {bs : List UInt8} {j c : Nat} (h : Begun bs j c) : c < 256 ^ j := by
  rw [h.2.2]
  refine be_lt _ _ ?_
  rw [List.length_take, List.length_drop]
  have := h.1
  omega

theorem info_u16 : (Try.prog.info? 46).map (fun i => (i.zero, i.size, i.bytes)) = some (some (.int .u16 0), 1, 2) := by kernel_rfl
end Go.Proofs.Ytdnkoeafnnohnaa

/-
  Probabilities in a block of their own.
-/
namespace Go.Proofs.Ytdnkoeafnnohnaa
open Go.RowKit

/-- probabilities as cells -/
def pv (ps : List Nat) : List Value := ps.map fun (p : Nat) => Value.int .u16 (p : Int)
theorem pv_length (ps : List Nat) : (pv ps).length = ps.length := by simp [pv]
theorem pv_get (ps : List Nat) (i : Nat) (h : i < ps.length) : (pv ps)[i]? = some (.int .u16 ((ps.getD i 0 : Nat) : Int)) := by
  simp [pv, List.getD, h]
theorem pv_set (ps : List Nat) (i q : Nat) : (pv ps).set i (.int .u16 (q : Int)) = pv (ps.set i q) := by
  simp [pv, List.map_set]

/-- Block b holds the probabilities ps. -/
def Row (w : World) (b : Nat) (ps : List Nat) (c : Nat) : Prop := w.ownsRow 0 46 1 (.slice (some ⟨b, 0, none⟩) ps.length c) ps.length (pv ps)

section
variable {w w' : World} {b c : Nat} {ps : List Nat}
theorem Row.cell (h : Row w b ps c) {i : Nat} (hi : i < ps.length) : w.cell? ⟨b, i, none⟩ = some (.int .u16 ((ps.getD i 0 : Nat) : Int)) := by
  rw [World.ownsRow.cellAt h i (by omega), pv_get ps i hi]
theorem Row.free (h : Row w b ps c) (i : Nat) : w.frozen? ⟨b, i, none⟩ = false := World.ownsRow.frozenAt h i
theorem Row.put (h : Row w b ps c) (i q : Nat) : Row (w.setCell ⟨b, i, none⟩ (.int .u16 (q : Int))) b (ps.set i q) c := by
  have := (World.ownsRow.stored h i (.int .u16 (q : Int))).1
  rw [pv_set] at this
  unfold Row
  rw [List.length_set]
  exact this
theorem Row.drewN (h : Row w b ps c) (n : Nat) : Row (w.drewN n) b ps c := h
theorem Row.only {S : Nat → Prop} (h : Row w b ps c) (hb : Only S w w') (hS : ¬ S b) : Row w' b ps c := own_only h hb hS
theorem Row.lt (h : Row w b ps c) : b < w.heap.size := (World.ownsRow.lt h b rfl).2
theorem Row.cap (h : Row w b ps c) : ps.length ≤ c ∧ c ≤ maxLen := by
  obtain ⟨_, h2, h3, _⟩ := own_facts h
  exact ⟨h2, h3⟩
end

end Go.Proofs.Ytdnkoeafnnohnaa

/-
  The reference's probabilities begin.
-/
namespace Go.Proofs.Ytdnkoeafnnohnaa
open Go.RowKit

set_option maxHeartbeats 2000000 in
theorem reffresh_any {n : Nat} (hn : n ≤ 100000000) (w : World) :
    Calls Try.prog 20 #[.int .i64 (n : Int)] w fun e w' =>
      ∃ A' c', e = .returned (.slice A' n c') ∧ w'.ownsRow w.heap.size 46 1 (.slice A' n c') n (pv (List.replicate n 1024)) ∧ Below w.heap.size w w' := by
  obtain ⟨i2, hi2, hy0, hy1, hy2⟩ := info_parts (show (Try.prog.info? 46).map (fun i => (i.zero, i.size, i.bytes)) = some (some (.int .u16 0), 1, 2) from by kernel_rfl)
  go_enter Try.func20, Try.ntmps20
  go_wp2_with fail
  go_loopw [3, 4] (fun p i wr => ∃ (j : Nat) (A2 : Option Addr) (c2 : Nat), j ≤ n ∧ i = .int .i64 (j : Int) ∧ p = .slice A2 j c2 ∧ wr.ownsRow w.heap.size 46 1 (.slice A2 j c2) j (pv (List.replicate j 1024)) ∧ Below w.heap.size w wr) (fun _ i _ => n - (intOf i).toNat)
  case atStart => exact ⟨0, none, 0, by omega, rfl, rfl, World.ownsRow_nil w _ _ 1, Below.refl _ _⟩
  case round =>
    obtain ⟨j, A2, c2, hj, rfl, rfl, ho, hb⟩ := hrel
    have HO := Lib.hid ho
    have HB := Lib.hid hb
    clear ho hb
    by_cases hlt : j < n
    · have hlt' : (j : Int) < (n : Int) := by omega
      go_wp2_with (at_builtin; refine wpList_app _ rfl (.tmp 10) (.tmp 11) 43 rfl w.heap.size 46 i2 _ 2 Try.underlying43 hi2 hy0 hy1 hy2 rfl _ j _ rfl (HO.out.alloc _) _ 1 1 _ rfl (sl_one _ _ _) (one_one _ _) (by omega) (by omega) (by have := HB.out.size; simp; omega) ?_)
      intro A3 c3 w3 ho hg
      have HB3 := Lib.hid ((HB.out.alloc HB.out.size _).grown hg (by have := HB.out.size; simp; omega) (fun b e => (HO.out.lt b e).1))
      have ho3 : w3.ownsRow w.heap.size 46 1 (.slice A3 (j + 1) c3) (j + 1) (pv (List.replicate (j + 1) 1024)) := by
        rw [List.replicate_succ']
        have e : pv (List.replicate j 1024 ++ [1024]) = pv (List.replicate j 1024) ++ [.int .u16 1024] := by simp [pv]
        rw [e]
        exact ho
      have HO3 := Lib.hid ho3
      clear ho hg ho3
      go_wp2
      go_roundw
      case rel => exact ⟨j + 1, A3, c3, by omega, by go_num, rfl, HO3.out, HB3.out⟩
      case measure => simp [intOf]; omega
    · obtain rfl : j = n := by omega
      go_wp2_with fail
      go_ret
      exact ⟨A2, c2, rfl, HO.out, HB.out⟩
end Go.Proofs.Ytdnkoeafnnohnaa

/-
  The reference's decoder begins; its fresh probabilities (cut out of RdSaid, RdFresh).
-/
namespace Go.Proofs.Ytdnkoeafnnohnaa
open Go.RowKit

/-- What a byte that is asked for is, and leaves. -/
def Nexted (bs : List UInt8) (at_ : Nat) (bad : Bool) (x at' : Nat) (bad' : Bool) : Prop :=
  (bad' = false ∧ bad = false ∧ at' = at_ + 1 ∧ ∃ y : UInt8, x = y.toNat ∧ bs.drop at_ = y :: bs.drop at') ∨ (bad' = true ∧ x = 0 ∧ (bad = true ∨ bs.drop at_ = []) ∧ at' = at_)

theorem next_one {g c at_ r k : Nat} {A : Option Addr} {w : World} {bs : List UInt8} {bad : Bool} (hB : Blk w g 51 (decCells A bs.length c at_ r k bad)) (hS : Sl w A bs.length (bv bs)) (ha : at_ ≤ bs.length) (hn : bs.length ≤ 1000000000)
    (hne : 0 < bs.length → ∀ b o, A = some ⟨b, o, none⟩ → b ≠ g) :
    Calls Try.prog 36 #[.pointer (some ⟨g, 0, none⟩)] w fun e w' =>
      ∃ (x at' : Nat) (bad' : Bool), e = .returned (.int .u64 (x : Int)) ∧ x < 256 ∧ Blk w' g 51 (decCells A bs.length c at' r k bad') ∧ at' ≤ bs.length ∧ Nexted bs at_ bad x at' bad' ∧ w.grownBy w' (some g) := by
  refine (next_any hB hS ha hn hne).mono ?_
  rintro e w' (⟨x, t, h1, h2, rfl, h4, h5, h6, h7⟩ | ⟨h1, rfl, h2, h3⟩)
  · exact ⟨x.toNat, at_ + 1, false, rfl, x.toNat_lt, h4, h5, .inl ⟨rfl, h1, rfl, x, rfl, by rw [h2, h6]⟩, h7⟩
  · exact ⟨0, at_, true, rfl, by omega, h2, ha, .inr ⟨rfl, rfl, h1, rfl⟩, h3⟩

def OnWayR (w : World) (g c : Nat) (A : Option Addr) (bs : List UInt8) (j : Nat) : Prop :=
  ∃ at_ k bad, Blk w g 51 (decCells A bs.length c at_ 4294967295 k bad) ∧ at_ ≤ bs.length ∧ k < 256 ^ j ∧ ((bad = true ∧ started bs = none) ∨ (bad = false ∧ at_ = j + 1 ∧ Begun bs j k))

theorem onwayR_next {bs : List UInt8} {at_ k j x at' : Nat} {bad bad' : Bool} (h : (bad = true ∧ started bs = none) ∨ (bad = false ∧ at_ = j + 1 ∧ Begun bs j k)) (hj : j < 4) (hn : Nexted bs at_ bad x at' bad') :
    (bad' = true ∧ started bs = none) ∨ (bad' = false ∧ at' = j + 1 + 1 ∧ Begun bs (j + 1) (k * 256 + x)) := by
  rcases hn with ⟨rfl, rfl, rfl, y, rfl, hy⟩ | ⟨rfl, rfl, hb, rfl⟩
  · rcases h with ⟨h, _⟩ | ⟨_, rfl, h⟩
    · cases h
    · exact .inr ⟨rfl, rfl, begun_next h hy⟩
  · left
    refine ⟨rfl, ?_⟩
    rcases h with ⟨_, h⟩ | ⟨rfl, rfl, h⟩
    · exact h
    · rcases hb with hb | hb
      · cases hb
      · refine started_short ?_
        have := List.drop_eq_nil_iff.1 hb
        omega

set_option maxRecDepth 100000 in
set_option maxHeartbeats 4000000 in
theorem refnew_any {n c : Nat} {A : Option Addr} {w : World} {bs : List UInt8} (hl : n = bs.length) (hS : Sl w A bs.length (bv bs)) (hn : bs.length ≤ 1000000000) :
    Calls Try.prog 19 #[.slice A n c] w fun e w' => e = .returned (.pointer (some ⟨w.heap.size, 0, none⟩)) ∧ Rf w' w.heap.size A c bs (started bs) ∧ Below w.heap.size w w' := by
  subst hl
  have hne : 0 < bs.length → ∀ b o, A = some ⟨b, o, none⟩ → b ≠ w.heap.size := by
    intro h0 b o e
    obtain ⟨b', o', e', hlt, _⟩ := hS.2 h0
    rw [e'] at e
    injection e with e
    injection e with e
    omega
  have hB0 : Blk (w.alloc (.cells #[.slice A bs.length c, .int .i64 0, .int .u64 4294967295, .int .u64 0, .bool false] 51)) w.heap.size 51 (decCells A bs.length c 0 4294967295 0 false) := Blk.fresh _ _ _
  have hb0 : Below w.heap.size w (w.alloc (.cells #[.slice A bs.length c, .int .i64 0, .int .u64 4294967295, .int .u64 0, .bool false] 51)) := (Below.refl _ _).alloc (Nat.le_refl _) _
  have K0 := Lib.hid (next_one hB0 (hS.below hb0) (Nat.zero_le _) hn hne)
  have HB0 := Lib.hid hb0
  have HS := Lib.hid hS
  have HNE := Lib.hid hne
  clear hB0 hb0 hS hne
  go_enter Try.func19, Try.ntmps19
  go_wp2_with fail
  generalize hg : w.heap.size = g at *
  have HGW := Lib.hid hg
  clear hg
  refine K0.out.mono ?_
  rintro e w1 ⟨x, at1, bad1, rfl, hx, hB1, hat1, hnx, hg1⟩
  have HB1 := Lib.hid hB1
  have HNX := Lib.hid hnx
  have HG1 := Lib.hid (HB0.out.grown hg1 (Nat.le_trans (Nat.le_of_eq HGW.out.symm) (by have := HB0.out.size; omega)) (fun q e => by injection e with e; omega))
  have f4 : w1.frozen? ⟨g, 4, none⟩ = false := hB1.free 4
  have j4 : w1.cell? ⟨g, 4, none⟩ = some (.bool bad1) := hB1.cell 4
  clear hB1 hnx hg1 K0 HB0
  by_cases hx0 : x = 0
  · have hw2 : OnWayR w1 g c A bs 0 := by
      refine ⟨at1, 0, bad1, HB1.out, hat1, by omega, ?_⟩
      rcases HNX.out with ⟨rfl, _, rfl, y, rfl, hy⟩ | ⟨rfl, _, hb, rfl⟩
      · refine .inr ⟨rfl, rfl, hat1, ?_, by simp [be]⟩
        cases bs with
        | nil => cases hy
        | cons z t => injection hy with hy _; rw [← hy] at hx0; exact hx0
      · refine .inl ⟨rfl, started_short ?_⟩
        rcases hb with hb | hb
        · cases hb
        · have := congrArg List.length hb
          simp only [List.length_drop, List.length_nil] at this
          omega
    have HW2 := Lib.hid hw2
    have HB2 := Lib.hid HG1.out
    clear hw2 HB1 HNX HG1
    subst hx0
    go_wp2_with fail
    go_loopw [5] (fun i wr => ∃ j : Nat, j ≤ 4 ∧ i = .int .i64 (j : Int) ∧ OnWayR wr g c A bs j ∧ Below g w wr) (fun i _ => 4 - (intOf i).toNat)
    case atStart => exact ⟨0, by omega, rfl, HW2.out, HB2.out⟩
    case round =>
      clear HW2 HB2
      obtain ⟨j, hj, rfl, ⟨at_, k, bad, hB, hat, hk, h0⟩, hb⟩ := hrel
      have HBr := Lib.hid hB
      have HB := Lib.hid hb
      have HH := Lib.hid h0
      have hsz := Nat.le_trans (Nat.le_of_eq HGW.out) (Nat.le_of_lt hB.lt)
      have hs := HS.out.below (hb.mono (Nat.le_of_eq HGW.out))
      clear hb h0
      by_cases hlt : j < 4
      · have hk3 : k < 16777216 := Nat.lt_of_lt_of_le hk (Nat.pow_le_pow_right (n := 256) (by omega) (show j ≤ 3 by omega))
        have hlt' : (j : Int) < 4 := by omega
        have hpk : k * 256 + 256 ≤ 256 ^ (j + 1) := by rw [Nat.pow_succ]; omega
        have HPK := Lib.hid hpk
        have j3 : wr.drew.cell? ⟨g, 3, none⟩ = some (.int .u64 (k : Int)) := hB.cell 3
        have K := Lib.hid (next_one (show Blk wr.drew g 51 (decCells A bs.length c at_ 4294967295 k bad) from hB) (show Sl wr.drew A bs.length (bv bs) from hs) hat hn HNE.out)
        have e1 : IntKind.u64.wrap ((k : Int) * 256) = (k : Int) * 256 := u64_of _ (by omega) (by omega)
        have HBD := Lib.hid (HB.out.drew)
        clear hB hk hpk hs HB HBr
        go_wp2_with fail
        have HB := Lib.hid (show Below g w wr.drew from HBD.out)
        go_region_law (first | (go_simp; go_at_call 36; refine K.out.mono ?_; rintro e w3 ⟨x, at', bad', rfl, hx, hB3, hat3, hn3, hg3⟩; have k3 : w3.cell? ⟨g, 3, none⟩ = some (.int .u64 (k : Int)) := hB3.cell 3; have z3 : w3.frozen? ⟨g, 3, none⟩ = false := hB3.free 3; have e2 : IntKind.u64.wrap ((k : Int) * 256 + (x : Int)) = ((k * 256 + x : Nat) : Int) := (by rw [show (k : Int) * 256 + (x : Int) = ((k * 256 + x : Nat) : Int) by omega]; exact u64_in _ (by omega)); have HB3 := Lib.hid hB3; have HN3 := Lib.hid hn3; have HG3 := Lib.hid hg3; clear hB3 hn3 hg3))
        all_goals
          go_wp2_with fail
          go_roundw
          case rel =>
            refine ⟨j + 1, by omega, by go_num, ⟨at', k * 256 + x, bad', HB3.out.put 3 _, hat3, by have := HPK.out; omega, onwayR_next HH.out hlt HN3.out⟩, ?_⟩
            exact (HBD.out.grown HG3.out (Nat.le_trans (Nat.le_of_eq HGW.out.symm) HBD.out.size) (fun q e => by injection e with e; omega)).setCell (p := ⟨g, 3, none⟩) (Nat.le_refl _) _
          case measure => simp [intOf]; omega
      · obtain rfl : j = 4 := by omega
        obtain ⟨R, hR⟩ : ∃ R : Nat, R = 4294967295 := ⟨_, rfl⟩
        have j2 : wr.cell? ⟨g, 2, none⟩ = some (.int .u64 (R : Int)) := by rw [hR]; exact hB.cell 2
        have HRR := Lib.hid hR
        have j3 : wr.cell? ⟨g, 3, none⟩ = some (.int .u64 (k : Int)) := hB.cell 3
        have j4 : wr.cell? ⟨g, 4, none⟩ = some (.bool bad) := hB.cell 4
        have f4 : wr.frozen? ⟨g, 4, none⟩ = false := hB.free 4
        have hk4 : k < 4294967296 := Nat.lt_of_lt_of_eq hk (by decide)
        clear hB hk hs
        have HK4 := Lib.hid hk4
        by_cases hkc : k < 4294967295
        · have hkc' : ¬ (k : Int) ≥ (R : Int) := by omega
          have HKC := Lib.hid hkc
          clear hkc hk4 hR
          go_wp2_with fail
          go_quiet (fail)
          go_wp2_with fail
          go_ret
          rw [HGW.out]
          refine ⟨rfl, ⟨at_, 4294967295, k, bad, HBr.out, hat, by omega, HK4.out, ?_⟩, below_drewN HB.out _⟩
          rcases HH.out with ⟨rfl, h⟩ | ⟨rfl, rfl, h⟩
          · exact .inl ⟨rfl, h⟩
          · exact .inr ⟨rfl, by rw [started_begun h, if_pos HKC.out]⟩
        · have hkc' : (k : Int) ≥ (R : Int) := by omega
          have HKC := Lib.hid hkc
          clear hkc hk4 hR
          go_wp2_with fail
          go_quiet (fail)
          go_wp2_with fail
          go_ret
          rw [HGW.out]
          refine ⟨rfl, ⟨at_, 4294967295, k, true, HBr.out.put 4 (.bool true), hat, by omega, HK4.out, .inl ⟨rfl, ?_⟩⟩, (below_drewN HB.out _).setCell (p := ⟨g, 4, none⟩) (Nat.le_refl _) _⟩
          rcases HH.out with ⟨rfl, h⟩ | ⟨rfl, rfl, h⟩
          · exact h
          · rw [started_begun h, if_neg HKC.out]
  · have hw2 : OnWayR (w1.setCell ⟨g, 4, none⟩ (.bool true)) g c A bs 0 := by
      refine ⟨at1, 0, true, HB1.out.put 4 (.bool true), hat1, by omega, .inl ⟨rfl, ?_⟩⟩
      rcases HNX.out with ⟨rfl, _, rfl, y, rfl, hy⟩ | ⟨_, h, _⟩
      · refine started_head ?_
        cases bs with
        | nil => cases hy
        | cons z t => injection hy with hy _; rw [← hy] at hx0; exact hx0
      · exact absurd h hx0
    have HW2 := Lib.hid hw2
    have HB2 := Lib.hid (HG1.out.setCell (p := ⟨g, 4, none⟩) (Nat.le_refl _) (.bool true))
    have hxi : ((x : Int) != 0) = true := by simp; omega
    clear hw2 HB1 HNX HG1
    go_wp2_with fail
    go_loopw [5] (fun i wr => ∃ j : Nat, j ≤ 4 ∧ i = .int .i64 (j : Int) ∧ OnWayR wr g c A bs j ∧ Below g w wr) (fun i _ => 4 - (intOf i).toNat)
    case atStart => exact ⟨0, by omega, rfl, HW2.out, HB2.out⟩
    case round =>
      clear HW2 HB2
      obtain ⟨j, hj, rfl, ⟨at_, k, bad, hB, hat, hk, h0⟩, hb⟩ := hrel
      have HBr := Lib.hid hB
      have HB := Lib.hid hb
      have HH := Lib.hid h0
      have hsz := Nat.le_trans (Nat.le_of_eq HGW.out) (Nat.le_of_lt hB.lt)
      have hs := HS.out.below (hb.mono (Nat.le_of_eq HGW.out))
      clear hb h0
      by_cases hlt : j < 4
      · have hk3 : k < 16777216 := Nat.lt_of_lt_of_le hk (Nat.pow_le_pow_right (n := 256) (by omega) (show j ≤ 3 by omega))
        have hlt' : (j : Int) < 4 := by omega
        have hpk : k * 256 + 256 ≤ 256 ^ (j + 1) := by rw [Nat.pow_succ]; omega
        have HPK := Lib.hid hpk
        have j3 : wr.drew.cell? ⟨g, 3, none⟩ = some (.int .u64 (k : Int)) := hB.cell 3
        have K := Lib.hid (next_one (show Blk wr.drew g 51 (decCells A bs.length c at_ 4294967295 k bad) from hB) (show Sl wr.drew A bs.length (bv bs) from hs) hat hn HNE.out)
        have e1 : IntKind.u64.wrap ((k : Int) * 256) = (k : Int) * 256 := u64_of _ (by omega) (by omega)
        have HBD := Lib.hid (HB.out.drew)
        clear hB hk hpk hs HB HBr
        go_wp2_with fail
        have HB := Lib.hid (show Below g w wr.drew from HBD.out)
        go_region_law (first | (go_simp; go_at_call 36; refine K.out.mono ?_; rintro e w3 ⟨x, at', bad', rfl, hx, hB3, hat3, hn3, hg3⟩; have k3 : w3.cell? ⟨g, 3, none⟩ = some (.int .u64 (k : Int)) := hB3.cell 3; have z3 : w3.frozen? ⟨g, 3, none⟩ = false := hB3.free 3; have e2 : IntKind.u64.wrap ((k : Int) * 256 + (x : Int)) = ((k * 256 + x : Nat) : Int) := (by rw [show (k : Int) * 256 + (x : Int) = ((k * 256 + x : Nat) : Int) by omega]; exact u64_in _ (by omega)); have HB3 := Lib.hid hB3; have HN3 := Lib.hid hn3; have HG3 := Lib.hid hg3; clear hB3 hn3 hg3))
        all_goals
          go_wp2_with fail
          go_roundw
          case rel =>
            refine ⟨j + 1, by omega, by go_num, ⟨at', k * 256 + x, bad', HB3.out.put 3 _, hat3, by have := HPK.out; omega, onwayR_next HH.out hlt HN3.out⟩, ?_⟩
            exact (HBD.out.grown HG3.out (Nat.le_trans (Nat.le_of_eq HGW.out.symm) HBD.out.size) (fun q e => by injection e with e; omega)).setCell (p := ⟨g, 3, none⟩) (Nat.le_refl _) _
          case measure => simp [intOf]; omega
      · obtain rfl : j = 4 := by omega
        obtain ⟨R, hR⟩ : ∃ R : Nat, R = 4294967295 := ⟨_, rfl⟩
        have j2 : wr.cell? ⟨g, 2, none⟩ = some (.int .u64 (R : Int)) := by rw [hR]; exact hB.cell 2
        have HRR := Lib.hid hR
        have j3 : wr.cell? ⟨g, 3, none⟩ = some (.int .u64 (k : Int)) := hB.cell 3
        have j4 : wr.cell? ⟨g, 4, none⟩ = some (.bool bad) := hB.cell 4
        have f4 : wr.frozen? ⟨g, 4, none⟩ = false := hB.free 4
        have hk4 : k < 4294967296 := Nat.lt_of_lt_of_eq hk (by decide)
        clear hB hk hs
        have HK4 := Lib.hid hk4
        by_cases hkc : k < 4294967295
        · have hkc' : ¬ (k : Int) ≥ (R : Int) := by omega
          have HKC := Lib.hid hkc
          clear hkc hk4 hR
          go_wp2_with fail
          go_quiet (fail)
          go_wp2_with fail
          go_ret
          rw [HGW.out]
          refine ⟨rfl, ⟨at_, 4294967295, k, bad, HBr.out, hat, by omega, HK4.out, ?_⟩, below_drewN HB.out _⟩
          rcases HH.out with ⟨rfl, h⟩ | ⟨rfl, rfl, h⟩
          · exact .inl ⟨rfl, h⟩
          · exact .inr ⟨rfl, by rw [started_begun h, if_pos HKC.out]⟩
        · have hkc' : (k : Int) ≥ (R : Int) := by omega
          have HKC := Lib.hid hkc
          clear hkc hk4 hR
          go_wp2_with fail
          go_quiet (fail)
          go_wp2_with fail
          go_ret
          rw [HGW.out]
          refine ⟨rfl, ⟨at_, 4294967295, k, true, HBr.out.put 4 (.bool true), hat, by omega, HK4.out, .inl ⟨rfl, ?_⟩⟩, (below_drewN HB.out _).setCell (p := ⟨g, 4, none⟩) (Nat.le_refl _) _⟩
          rcases HH.out with ⟨rfl, h⟩ | ⟨rfl, rfl, h⟩
          · exact h
          · rw [started_begun h, if_neg HKC.out]

end Go.Proofs.Ytdnkoeafnnohnaa

/-
  append onto a row of the call's own, which block it is then.
-/
namespace Go.Proofs.Ytdnkoeafnnohnaa
open Go.RowKit

section
variable {P : Program} (w : World)
theorem wpList_appO {ops : Array Oper} {rest : List Oper} {o : Oper} {a : Act} {Q : Exit → Act → World → Prop} (hgd : o.guard = none) (s x : Operand) (t : TypeId)
    (ho : o.op = .call { callee := .builtin .append, args := #[s, x], argTypes := #[t, t] })
    (base : Nat) (e : TypeId) (i : TypeInfo) (z : Value) (bytes : Nat) (ht : P.underlying t = some (.slice e)) (hi : P.info? e = some i) (hz : i.zero = some z)
    (hsize : i.size = 1) (hby : i.bytes = bytes) (hzs : z.cells.size = 1)
    (v : Value) (n : Nat) (xs : List Value) (hs : a.eval s = v) (hown : w.ownsRow base e 1 v n xs)
    (A : Option Addr) (m c : Nat) (news : List Value) (hx : a.eval x = .slice A m c) (hr : Sl w A m news) (h1 : ∀ u ∈ news, u.oneCell' = true)
    (hbytes : (n + m) * bytes ≤ 140737488355328) (hb0 : 0 < bytes) (hbase : base ≤ w.heap.size)
    (h : ∀ A' c' w', w'.ownsRow base e 1 (.slice A' (n + m) c') (n + m) (xs ++ news) → w.grownBy w' v.ownBlock → ((Value.slice A' (n + m) c').ownBlock = v.ownBlock ∨ (Value.slice A' (n + m) c').ownBlock = some w.heap.size) → wpList P ops Q rest (a.put o.dst (.slice A' (n + m) c')) w') : wpList P ops Q (o :: rest) a w :=
  wpList_plain hgd fun K hK => by
    obtain ⟨v', w', hrun, h2, h3, h4⟩ := run_app (P := P) w base t o.type e i z bytes ht hi hz hsize hby hzs v n xs hown A m c news hr h1 hbytes hb0 hbase
    obtain ⟨A', c', rfl, h2⟩ := own_form h2
    unfold Oper.wp execOp
    simp only [ho, resolve, invoke, builtin, Sem.run_bind, Sem.run_pure, Result.andThen_ok, List.map_toArray, List.map_cons, List.map_nil, hs, hx, hrun]
    exact hK _ _ (h A' c' w' h2 h3 h4)
end

end Go.Proofs.Ytdnkoeafnnohnaa
