/-
  The program's coder of shares in memory; a byte is given; low is more.
-/
import Derived.Test.YtkjhdpfomofggaaPrCon
import Derived.Deep.RegionLaw
import Derived.LoopN
namespace Go.Proofs.Ytkjhdpfomofggaa
open Go.RowKit

def pwCells (lo r q L c : Nat) : Array Value := #[.int .u32 (lo : Int), .int .u32 (r : Int), .slice (some ⟨q, 0, none⟩) L c]

/-- Block g is the program's coder: low lo, range r, the bytes gs at block q. -/
def Pw (w : World) (g q : Nat) (gs : List UInt8) (lo r : Nat) : Prop :=
  ∃ c, Blk w g 67 (pwCells lo r q gs.length c) ∧ Byt w q c gs ∧ q ≠ g
/-- what a call of the coder leaves -/
def PwPost (w : World) (g q : Nat) (gs : List UInt8) (lo r : Nat) (x : Ending) (w' : World) : Prop :=
  x = .returned (.tuple #[]) ∧ ∃ q', Pw w' g q' gs lo r ∧ (q' = q ∨ w.heap.size ≤ q') ∧ Only (duo g q) w w'

section
variable {w w' : World} {g q lo r : Nat} {gs : List UInt8}
theorem Pw.lt (h : Pw w g q gs lo r) : g < w.heap.size ∧ q < w.heap.size := by obtain ⟨c, hB, hY, _⟩ := h; exact ⟨hB.lt, hY.lt⟩
theorem Pw.only {S : Nat → Prop} (h : Pw w g q gs lo r) (hb : Only S w w') (hg : ¬ S g) (hq : ¬ S q) : Pw w' g q gs lo r := by
  obtain ⟨c, hB, hY, hn⟩ := h
  exact ⟨c, hB.only hb hg, hY.only hb hq, hn⟩
theorem Pw.drewN (h : Pw w g q gs lo r) (n : Nat) : Pw (w.drewN n) g q gs lo r := h
theorem Pw.cells (h : Pw w g q gs lo r) : w.cell? ⟨g, 0, none⟩ = some (.int .u32 (lo : Int)) ∧ w.cell? ⟨g, 1, none⟩ = some (.int .u32 (r : Int)) ∧ w.frozen? ⟨g, 0, none⟩ = false ∧ w.frozen? ⟨g, 1, none⟩ = false := by
  obtain ⟨c, hB, _⟩ := h
  exact ⟨hB.cell 0, hB.cell 1, hB.free 0, hB.free 1⟩
theorem Pw.low (h : Pw w g q gs lo r) (L : Nat) : Pw (w.setCell ⟨g, 0, none⟩ (.int .u32 (L : Int))) g q gs L r := by
  obtain ⟨c, hB, hY, hn⟩ := h
  exact ⟨c, hB.put 0 (.int .u32 (L : Int)), hY.only ((Only.refl (fun j => j = g) w).setCell (p := ⟨g, 0, none⟩) (.inl rfl) _) hn, hn⟩
theorem Pw.span (h : Pw w g q gs lo r) (R : Nat) : Pw (w.setCell ⟨g, 1, none⟩ (.int .u32 (R : Int))) g q gs lo R := by
  obtain ⟨c, hB, hY, hn⟩ := h
  exact ⟨c, hB.put 1 (.int .u32 (R : Int)), hY.only ((Only.refl (fun j => j = g) w).setCell (p := ⟨g, 1, none⟩) (.inl rfl) _) hn, hn⟩
end

theorem duo_l (g q : Nat) : duo g q g := .inl rfl
theorem duo_r (g q : Nat) : duo g q q := .inr rfl

/-- One byte more, and the cell that leads to the bytes is stored. -/
theorem pushed {w w1 w3 : World} {g q c q' c' lo r : Nat} {gs : List UInt8} {x : UInt8} (hB : Blk w g 67 (pwCells lo r q gs.length c)) (hY : Byt w q c gs) (hne : q ≠ g) (h1 : Only (fun _ => False) w w1)
    (ho : w3.ownsRow 0 5 1 (.slice (some ⟨q', 0, none⟩) (gs.length + 1) c') (gs.length + 1) (bv gs ++ [.int .u8 (x.toNat : Int)])) (hg : w1.grownBy w3 (some q)) (hq : q' = q ∨ q' = w1.heap.size) :
    w3.cell? ⟨g, 2, none⟩ = some (.slice (some ⟨q, 0, none⟩) gs.length c) ∧ w3.frozen? ⟨g, 2, none⟩ = false ∧
    Pw (w3.setCell ⟨g, 2, none⟩ (.slice (some ⟨q', 0, none⟩) (gs.length + 1) c')) g q' (gs ++ [x]) lo r ∧ (q' = q ∨ w.heap.size ≤ q') ∧ Only (duo g q) w (w3.setCell ⟨g, 2, none⟩ (.slice (some ⟨q', 0, none⟩) (gs.length + 1) c')) := by
  have hgl := hB.lt
  have hs1 := h1.size
  have hqg : q' ≠ g := by rcases hq with h | h <;> omega
  have hB1 : Blk w1 g 67 _ := hB.only h1 (fun h => h)
  have hB3 : Blk w3 g 67 _ := hB1.grown hg (by intro e; injection e with e; exact hne e.symm)
  have h3 : Only (duo g q) w w3 := (h1.mono (fun _ h => h.elim)).trans (Only.of_grown hg (duo_r g q))
  refine ⟨hB3.cell 2, hB3.free 2, ⟨c', ?_, ?_, hqg⟩, by rcases hq with h | h; exact .inl h; exact .inr (by omega), h3.setCell (p := ⟨g, 2, none⟩) (.inl (duo_l g q)) _⟩
  · have := hB3.put 2 (.slice (some ⟨q', 0, none⟩) (gs.length + 1) c')
    show Blk _ g _ (pwCells lo r q' (gs ++ [x]).length c')
    rw [List.length_append]
    exact this
  · show World.ownsRow _ 0 5 1 (.slice (some ⟨q', 0, none⟩) (gs ++ [x]).length c') (gs ++ [x]).length (bv (gs ++ [x]))
    rw [List.length_append, bv_append]
    exact own_only (S := fun i => i = g) ho ((Only.refl (fun i => i = g) w3).setCell (p := ⟨g, 2, none⟩) (.inl rfl) _) hqg

section
variable {w : World} {g q lo r : Nat} {gs : List UInt8}
set_option maxHeartbeats 4000000 in
theorem wgive_any (h : Pw w g q gs lo r) (hlo : lo < 4294967296) (hlen : gs.length ≤ 1000000000) :
    Calls Try.prog 39 #[.pointer (some ⟨g, 0, none⟩)] w (PwPost w g q (gs ++ [UInt8.ofNat (lo / 16777216)]) (lo % 16777216 * 256) r) := by
  obtain ⟨i, hi, hz0, hz1, hz2⟩ := info_parts info_u8
  obtain ⟨c, hB, hY, hne⟩ := h
  obtain ⟨x, hx⟩ : ∃ x, x = UInt8.ofNat (lo / 16777216) := ⟨_, rfl⟩
  have hxn : x.toNat = lo / 16777216 := by rw [hx]; simp; omega
  have c0 : w.cell? ⟨g, 0, none⟩ = some (.int .u32 (lo : Int)) := hB.cell 0
  have c2 : w.cell? ⟨g, 2, none⟩ = some (.slice (some ⟨q, 0, none⟩) gs.length c) := hB.cell 2
  have e1 : (lo : Int) / 16777216 = (x.toNat : Int) := by omega
  have e2 : IntKind.u8.wrap (x.toNat : Int) = (x.toNat : Int) := by have := x.toNat_lt; simp [IntKind.wrap, IntKind.bits, IntKind.signed]; omega
  have e3 : IntKind.u32.wrap (x.toNat : Int) = (x.toNat : Int) := u32_is _ (by omega) (by omega)
  have e4 : IntKind.u32.wrap ((lo : Int) * 256) = ((lo % 16777216 * 256 : Nat) : Int) := by
    simp [IntKind.wrap, IntKind.bits, IntKind.signed]; omega
  have c2a : (w.alloc (.cells #[.int .u8 (x.toNat : Int)] 5)).cell? ⟨g, 2, none⟩ = some (.slice (some ⟨q, 0, none⟩) gs.length c) := (hB.alloc _).cell 2
  have HNW := Lib.hid (fun (n : Nat) (u : Value) => (sl_one (w.drewN n) 5 u).news)
  have HOA := Lib.hid (fun (n : Nat) (o : Obj) => World.ownsRow.alloc (show (w.drewN n).ownsRow 0 5 1 (.slice (some ⟨q, 0, none⟩) gs.length c) gs.length (bv gs) from hY.own) o)
  have HN3 := Lib.hid (fun (n : Nat) (o : Obj) (q' c' : Nat) (w3 : World) (ho : w3.ownsRow 0 5 1 (.slice (some ⟨q', 0, none⟩) (gs.length + 1) c') (gs.length + 1) (bv gs ++ [.int .u8 (x.toNat : Int)])) (hg : ((w.drewN n).alloc o).grownBy w3 (some q)) (hq : (some q : Option Nat) = some q' ∨ q' = ((w.drewN n).alloc o).heap.size) =>
    pushed (x := x) hB hY hne (((Only.refl (fun _ => False) w).drewN n).alloc o) ho hg (hq.imp (fun h => by injection h with h; exact h.symm) id))
  have HL := Lib.hid hlen
  rw [← hx]
  generalize lo % 16777216 * 256 = lo' at *
  clear hB hY hlen hx hxn hlo
  go_enter Try.func39, Try.ntmps39
  go_wp2_with fail
  go_region_law (first | (refine step_append_lies _ rfl (.tmp 6) (.tmp 13) 22 rfl 0 5 i _ 1 1 Try.underlying22 hi hz0 hz1 hz2 rfl (by omega) _ gs.length (bv gs) rfl (HOA.out 1 _) _ 1 1 [.int .u8 (x.toNat : Int)] rfl rfl (HNW.out 1 _) (one_one _ _) (by omega) (by have := HL.out; unfold maxLen; omega) (by have := HL.out; omega) (Nat.zero_le _) _ rfl ?_; intro q' c' w3 ho hg hq hql3; obtain ⟨j2, z2, hP⟩ := HN3.out 1 _ q' c' w3 ho hg hq; have HP := Lib.hid hP; clear ho hg hq hP))
  all_goals
    clear c0 c2 c2a HNW HOA HN3 j2 z2
    obtain ⟨hP1, hN1, hO1⟩ := HP.out
    clear HP
    generalize w3.setCell ⟨g, 2, none⟩ (.slice (some ⟨q', 0, none⟩) (gs.length + 1) c') = w4 at *
    obtain ⟨c4, _, z4, _⟩ := hP1.cells
    have HP1 := Lib.hid (hP1.low lo')
    have HN1 := Lib.hid hN1
    have HO1 := Lib.hid (hO1.setCell (p := ⟨g, 0, none⟩) (.inl (duo_l g q)) (.int .u32 (lo' : Int)))
    clear hP1 hN1 hO1
    go_wp2_with fail
    first | go_end0 | refine bodyPost_ret (results_none rfl _ _ _) rfl ?_
    exact ⟨rfl, q', HP1.out, HN1.out, HO1.out⟩

set_option maxHeartbeats 1000000 in
theorem add32_any {a b : Nat} (ha : a < 4294967296) (hb : b < 4294967296) (w : World) :
    Calls Try.prog 42 #[.int .u32 (a : Int), .int .u32 (b : Int), .int .u32 0] w fun e w' => e = .returned (.tuple #[.int .u32 (((a + b) % 4294967296 : Nat) : Int), .int .u32 (((a + b) / 4294967296 : Nat) : Int)]) ∧ w = w' := by
  obtain ⟨s, hs⟩ : ∃ s, s = a + b := ⟨_, rfl⟩
  obtain ⟨u, hu⟩ : ∃ u, u = s % 4294967296 := ⟨_, rfl⟩
  obtain ⟨v, hv⟩ : ∃ v, v = s / 4294967296 := ⟨_, rfl⟩
  rw [← hs, ← hu, ← hv]
  have e1 : IntKind.u64.wrap (a : Int) = (a : Int) := u64_in _ (by omega)
  have e2 : IntKind.u64.wrap (b : Int) = (b : Int) := u64_in _ (by omega)
  have e3 : IntKind.u64.wrap ((a : Int) + (b : Int)) = (s : Int) := by rw [← Int.natCast_add, ← hs]; exact u64_in _ (by omega)
  have e4 : IntKind.u64.wrap (s : Int) = (s : Int) := u64_in _ (by omega)
  have e5 : IntKind.u32.wrap (s : Int) = (u : Int) := by simp [IntKind.wrap, IntKind.bits, IntKind.signed]; omega
  have e6 : (s : Int) / 4294967296 = (v : Int) := by omega
  have e7 : IntKind.u64.wrap (v : Int) = (v : Int) := u64_in _ (by omega)
  have e8 : IntKind.u32.wrap (v : Int) = (v : Int) := u32_is _ (by omega) (by omega)
  clear hs hu hv ha hb
  go_enter Try.func42, Try.ntmps42
  go_wp2_with fail
  go_ret2
  exact ⟨rfl, rfl⟩

set_option maxHeartbeats 1000000 in
theorem boundOf_any {a z t : Nat} (hb : a / 2 ^ t * z < 4294967296) (ha : a < 4294967296) (ht : t ≤ 16) (w : World) :
    Calls Try.prog 33 #[.int .u32 (a : Int), .int .u32 (z : Int), .int .u32 (t : Int)] w fun e w' => e = .returned (.int .u32 ((a / 2 ^ t * z : Nat) : Int)) ∧ w = w' := by
  obtain ⟨Q, hQ⟩ : ∃ Q, Q = a / 2 ^ t := ⟨_, rfl⟩
  obtain ⟨b, hbb⟩ : ∃ b, b = Q * z := ⟨_, rfl⟩
  have hQa : Q ≤ a := by rw [hQ]; exact Nat.div_le_self _ _
  rw [← hQ] at hb ⊢
  rw [← hbb] at hb ⊢
  have m1 : min t 32 = t := by omega
  have e1 : (a : Int) / 2 ^ t = (Q : Int) := by rw [cast_pow2, hQ]; exact (Int.natCast_ediv a (2 ^ t)).symm
  have e2 : IntKind.u32.wrap (Q : Int) = (Q : Int) := u32_is _ (by omega) (by omega)
  have e3 : IntKind.u32.wrap ((Q : Int) * (z : Int)) = (b : Int) := by rw [← Int.natCast_mul, ← hbb]; exact u32_is _ (by omega) (by omega)
  have e4 : ((t : Int)).toNat = t := by simp
  have t0 : (0 : Int) ≤ (t : Int) := by omega
  clear hQ hbb hQa hb ha ht
  go_enter Try.func33, Try.ntmps33
  go_wp2_with fail
  go_ret
  exact ⟨rfl, rfl⟩

set_option maxHeartbeats 1000000 in
theorem wnew_any (w : World) : Calls Try.prog 22 #[] w fun e w' => e = .returned (.pointer (some ⟨w.heap.size + 1, 0, none⟩)) ∧ Pw w' (w.heap.size + 1) w.heap.size [0] 0 4294967295 ∧ Below w.heap.size w w' := by
  have hsz : (w.alloc (.cells #[.int .u8 0] 5)).heap.size = w.heap.size + 1 := by simp
  have HY := Lib.hid (show Byt (w.alloc (.cells #[.int .u8 0] 5)) w.heap.size 1 [0] from own_one w (Nat.zero_le _) _ _)
  have HSZ := Lib.hid hsz
  have HB := Lib.hid ((Below.refl w.heap.size w).alloc (Nat.le_refl _) (.cells #[.int .u8 0] 5))
  clear hsz
  go_enter Try.func22, Try.ntmps22
  go_wp2_with fail
  go_ret
  have hsz := HSZ.out
  generalize (w.alloc (.cells #[.int .u8 0] 5)) = w1 at *
  refine ⟨rfl, ⟨1, ?_, HY.out.only ((Only.refl (fun _ => False) w1).alloc _) (fun h => h), by omega⟩, HB.out.alloc (by omega) _⟩
  have := Blk.fresh w1 67 (pwCells 0 4294967295 w.heap.size 1 1)
  rw [hsz] at this
  exact this
end
end Go.Proofs.Ytkjhdpfomofggaa
