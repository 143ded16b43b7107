/-
  The reference's window: each call a contract.
-/
import Derived.Test.YtnokbibkjhhcoaaRows
import Derived.Test.YtnokbibkjhhcoaaWnPure
import Derived.Test.YtnokbibkjhhcoaaOwn
import Derived.Tactics
import Derived.Tactics2
import Derived.Laws.Pointers
import Derived.Lib.MinMax
import Derived.RegionTactic
import Derived.RegionCalls
import Derived.BigQuiet
import Derived.Deep.RegionLaw
import Derived.StillTailTactics
namespace Go.Proofs.Ytnokbibkjhhcoaa
open Go.RowKit

theorem info_parts {P : Program} {t : TypeId} {z : Value} {s b : Nat} (h : (P.info? t).map (fun i => (i.zero, i.size, i.bytes)) = some (some z, s, b)) : ∃ i, P.info? t = some i ∧ i.zero = some z ∧ i.size = s ∧ i.bytes = b := by
  cases hi : P.info? t with
  | none => rw [hi] at h; cases h
  | some i =>
    rw [hi] at h
    simp only [Option.map_some, Option.some.injEq, Prod.mk.injEq] at h
    exact ⟨i, rfl, h.1, h.2.1, h.2.2⟩
theorem info_u8 : (Try.prog.info? 5).map (fun i => (i.zero, i.size, i.bytes)) = some (some (.int .u8 0), 1, 1) := by kernel_rfl

def wrCells (z : Nat) (A : Option Addr) (n c : Nat) (b : Bool) : Array Value := #[.int .i64 (z : Int), .slice A n c, .bool b]

/-- Block g is the reference's window s; G holds it, and the block of what it remembers. -/
def Wr (w : World) (g : Nat) (G : Nat → Prop) (s : Ws) : Prop :=
  ∃ A c, Blk w g 42 (wrCells s.sz A s.l.length c s.shut) ∧ Sl w A s.l.length (bv s.l) ∧ G g ∧ (0 < s.l.length → ∀ b o, A = some ⟨b, o, none⟩ → G b ∧ b ≠ g) ∧ (∀ i, G i → i < w.heap.size)

theorem below_grown {a w' : World} {B n c : Nat} {e : TypeId} {A : Option Addr} {xs : List Value} (ho : a.ownsRow B e 1 (.slice A n c) n xs) (hg : a.grownBy w' (Value.slice A n c).ownBlock) (hB : B ≤ a.heap.size) : Below B a w' := by
  rcases A with _ | ⟨b, o, r⟩
  · exact (only_none hg).mono hB
  · obtain ⟨g, cap, hv, hb, _⟩ : ∃ g cap, Value.slice (some ⟨b, o, r⟩) n c = .slice (some ⟨g, 0, none⟩) n cap ∧ B ≤ g ∧ True := by
      rcases ho.2 with ⟨hv, _⟩ | ⟨g, cap, cur, hv, hb, _⟩
      · cases hv
      · exact ⟨g, cap, hv, hb, trivial⟩
    injection hv with h1
    injection h1 with h1
    injection h1 with h1
    subst h1
    exact below_of_only hg hb hB

section
variable {w w' : World} {g : Nat} {G : Nat → Prop} {s : Ws}
theorem Wr.old (h : Wr w g G s) {i : Nat} (hi : G i) : i < w.heap.size := by obtain ⟨_, _, _, _, _, _, h⟩ := h; exact h i hi
theorem Wr.own (h : Wr w g G s) : G g := by obtain ⟨_, _, _, _, h, _⟩ := h; exact h
theorem Wr.only {S : Nat → Prop} (h : Wr w g G s) (hb : Only S w w') (hS : ∀ i, G i → ¬ S i) : Wr w' g G s := by
  obtain ⟨A, c, hB, hs, hg, hne, hl⟩ := h
  exact ⟨A, c, hB.only hb (hS g hg), hs.only hb (fun hn b o e => hS b (hne hn b o e).1), hg, hne, fun i hi => Nat.lt_of_lt_of_le (hl i hi) hb.size⟩
theorem Wr.drewN (h : Wr w g G s) (n : Nat) : Wr (w.drewN n) g G s := h
/-- the law empties it by itself -/
theorem Wr.empty (h : Wr w g G s) : Wr (w.setCell ⟨g, 1, none⟩ (.slice none 0 0)) g G s.empty := by
  obtain ⟨A, c, hB, hs, hg, hne, hl⟩ := h
  exact ⟨none, 0, hB.put 1 (.slice none 0 0), Sl.nil, hg, fun h => absurd h (Nat.lt_irrefl 0), fun i hi => by have := hl i hi; simpa [World.setCell] using this⟩
/-- and closes it -/
theorem Wr.close (h : Wr w g G s) : Wr (w.setCell ⟨g, 2, none⟩ (.bool true)) g G s.close := by
  obtain ⟨A, c, hB, hs, hg, hne, hl⟩ := h
  have hO := (Only.refl (fun i => i = g) w).setCell (p := ⟨g, 2, none⟩) (.inl rfl) (.bool true)
  exact ⟨A, c, hB.put 2 (.bool true), hs.only hO (fun hn b o e => (hne hn b o e).2), hg, hne, fun i hi => by have := hl i hi; simpa [World.setCell] using this⟩
theorem Wr.cells (h : Wr w g G s) : ∃ A c, w.cell? ⟨g, 0, none⟩ = some (.int .i64 (s.sz : Int)) ∧ w.cell? ⟨g, 1, none⟩ = some (.slice A s.l.length c) ∧ w.cell? ⟨g, 2, none⟩ = some (.bool s.shut) ∧ w.frozen? ⟨g, 1, none⟩ = false ∧ w.frozen? ⟨g, 2, none⟩ = false := by
  obtain ⟨A, c, hB, _⟩ := h
  exact ⟨A, c, hB.cell 0, hB.cell 1, hB.cell 2, hB.free 1, hB.free 2⟩

set_option maxHeartbeats 1000000 in
theorem rwnew_any {n : Int} (h0 : -9223372036854775808 ≤ n) (h1 : n ≤ 9223372036854775807) (w : World) :
    Calls Try.prog 10 #[.int .i64 n] w fun x w' => x = .returned (.pointer (some ⟨w.heap.size, 0, none⟩)) ∧ Wr w' w.heap.size (fun i => i = w.heap.size) (Ws.new n) ∧ Below w.heap.size w w' := by
  have hend : ∀ k : Int, k = max n 1 → Wr (w.alloc (.cells #[.int .i64 k, .slice none 0 0, .bool false] 42)) w.heap.size (fun i => i = w.heap.size) (Ws.new n) := by
    intro k hk
    refine ⟨none, 0, ?_, Sl.nil, rfl, fun h => absurd h (Nat.lt_irrefl 0), fun i hi => by simp [hi]⟩
    have e : (((Ws.new n).sz : Nat) : Int) = k := by show (((max n 1).toNat : Nat) : Int) = k; omega
    unfold wrCells
    rw [e]
    exact Blk.fresh w _ _
  have HE := Lib.hid hend
  clear hend
  by_cases hn : n < 1
  · go_enter Try.func10, Try.ntmps10
    go_wp2_with fail
    go_ret
    exact ⟨rfl, HE.out 1 (by omega), (Below.refl _ _).alloc (Nat.le_refl _) _⟩
  · go_enter Try.func10, Try.ntmps10
    go_wp2_with fail
    go_ret
    exact ⟨rfl, HE.out n (by omega), (Below.refl _ _).alloc (Nat.le_refl _) _⟩

set_option maxHeartbeats 1000000 in
theorem rwhas_any {d : Int} (h : Wr w g G s) (hz : s.sz ≤ 1048576) (hl : s.l.length ≤ 1000000000) :
    Calls Try.prog 15 #[.pointer (some ⟨g, 0, none⟩), .int .i64 d] w fun x w' => x = .returned (.bool (s.has d)) ∧ w = w' := by
  obtain ⟨A, c, c0, c1, c2, _, _⟩ := h.cells
  clear h
  obtain ⟨v, hv⟩ : ∃ v, v = s.has d := ⟨_, rfl⟩
  have hdef : v = (!s.shut && decide (0 ≤ d ∧ d < (s.sz : Int) ∧ d < (s.l.length : Int))) := hv
  rw [← hv]
  clear hv
  generalize s.shut = sh at *
  generalize s.sz = z at *
  generalize s.l.length = n at *
  clear hz hl
  cases sh
  · by_cases h1 : 0 ≤ d
    · have g1 : d ≥ 0 := h1
      by_cases h2 : d < (z : Int)
      · by_cases h3 : d < (n : Int)
        · obtain rfl : v = true := by rw [hdef]; simp; omega
          clear hdef
          go_enter Try.func15, Try.ntmps15
          go_wp2_with fail
          go_ret
          exact ⟨rfl, rfl⟩
        · obtain rfl : v = false := by rw [hdef]; simp; omega
          clear hdef
          go_enter Try.func15, Try.ntmps15
          go_wp2_with fail
          go_ret
          exact ⟨rfl, rfl⟩
      · obtain rfl : v = false := by rw [hdef]; simp; omega
        clear hdef
        go_enter Try.func15, Try.ntmps15
        go_wp2_with fail
        go_ret
        exact ⟨rfl, rfl⟩
    · have g1 : ¬ d ≥ 0 := h1
      obtain rfl : v = false := by rw [hdef]; simp; omega
      clear hdef
      go_enter Try.func15, Try.ntmps15
      go_wp2_with fail
      go_ret
      exact ⟨rfl, rfl⟩
  · obtain rfl : v = false := by rw [hdef]; simp
    clear hdef
    go_enter Try.func15, Try.ntmps15
    go_wp2_with fail
    go_ret
    exact ⟨rfl, rfl⟩

set_option maxHeartbeats 1000000 in
theorem rwat_any {d : Int} (h : Wr w g G s) (hz : s.sz ≤ 1048576) (hl : s.l.length ≤ 1000000000) :
    Calls Try.prog 13 #[.pointer (some ⟨g, 0, none⟩), .int .i64 d] w fun x w' => x = .returned (.int .u8 ((s.at_ d).toNat : Int)) ∧ ∃ k, w.drewN k = w' := by
  have K := Lib.hid (rwhas_any (d := d) h hz hl)
  by_cases hh : s.has d = true
  · obtain ⟨_, h0, h1, h2⟩ := has_iff.1 hh
    obtain ⟨A, c, hB, hs, _⟩ := h
    obtain ⟨b, o, rfl, hb, hc⟩ := hs.2 (by omega)
    have c1 : w.cell? ⟨g, 1, none⟩ = some (.slice (some ⟨b, o, none⟩) s.l.length c) := hB.cell 1
    obtain ⟨i, hi⟩ : ∃ i : Nat, i = s.l.length - 1 - d.toNat := ⟨_, rfl⟩
    have cx : w.cell? ⟨b, o + i, none⟩ = some (.int .u8 ((s.at_ d).toNat : Int)) := by rw [hc i (by omega), bv_get _ _ (by omega), at_has hh, hi]
    have e1 : IntKind.i64.wrap ((s.l.length : Int) - 1) = (s.l.length : Int) - 1 := IntWalk.i64_in _ (by omega)
    have e2 : IntKind.i64.wrap ((s.l.length : Int) - 1 - d) = (i : Int) := by rw [show (s.l.length : Int) - 1 - d = (i : Int) by omega]; exact IntWalk.i64_in _ (by omega)
    have i0 : (0 : Int) ≤ (i : Int) := by omega
    have i1 : (i : Int) < (s.l.length : Int) := by omega
    rw [hh] at K
    clear hB hs hb hc hi h0 h1 h2 hh hz hl
    generalize s.at_ d = x at *
    generalize s.l.length = n at *
    go_enter Try.func13, Try.ntmps13
    go_wp2_with fail
    refine K.out.mono ?_
    rintro e w' ⟨rfl, rfl⟩
    clear K
    go_wp2_with fail
    go_quiet (fail)
    go_wp2_with fail
    go_ret
    exact ⟨rfl, _, rfl⟩
  · have hf : s.has d = false := by simpa using hh
    rw [at_not hf]
    rw [hf] at K
    clear h hh hf hz hl
    go_enter Try.func13, Try.ntmps13
    go_wp2_with fail
    refine K.out.mono ?_
    rintro e w' ⟨rfl, rfl⟩
    clear K
    go_wp2_with fail
    go_ret
    exact ⟨rfl, 0, rfl⟩

set_option maxHeartbeats 1000000 in
theorem rwcount_any (h : Wr w g G s) (hz : s.sz ≤ 1048576) (hl : s.l.length ≤ 1000000000) :
    Calls Try.prog 21 #[.pointer (some ⟨g, 0, none⟩)] w fun x w' => x = .returned (.int .i64 (s.count : Int)) ∧ ∃ k, w.drewN k = w' := by
  obtain ⟨A, c, c0, c1, c2, _, _⟩ := h.cells
  clear h
  obtain ⟨v, hv⟩ : ∃ v, v = s.count := ⟨_, rfl⟩
  have hdef : v = if s.shut = true then 0 else min s.sz s.l.length := hv
  rw [← hv]
  clear hv
  generalize s.shut = sh at *
  generalize s.sz = z at *
  generalize s.l.length = n at *
  cases sh
  · rw [if_neg (by simp)] at hdef
    by_cases h1 : (n : Int) > (z : Int)
    · obtain rfl : v = z := by omega
      clear hdef hz hl
      go_enter Try.func21, Try.ntmps21
      go_wp2_with fail
      go_quiet (fail)
      go_wp2_with fail
      go_ret
      exact ⟨rfl, _, rfl⟩
    · obtain rfl : v = n := by omega
      clear hdef hz hl
      go_enter Try.func21, Try.ntmps21
      go_wp2_with fail
      go_quiet (fail)
      go_wp2_with fail
      go_ret
      exact ⟨rfl, _, rfl⟩
  · rw [if_pos rfl] at hdef
    subst hdef
    go_enter Try.func21, Try.ntmps21
    go_wp2_with fail
    go_ret
    exact ⟨rfl, 0, rfl⟩

set_option maxHeartbeats 4000000 in
theorem rwput_any {b : UInt8} (h : Wr w g G s) (hl : s.l.length ≤ 1000000000) :
    Calls Try.prog 12 #[.pointer (some ⟨g, 0, none⟩), .int .u8 (b.toNat : Int)] w (OwnPost (fun w' G' => Wr w' g G' (s.put b)) w G (.tuple #[])) := by
  obtain ⟨A, c, c0, c1, c2, f1, _⟩ := h.cells
  by_cases hs : s.shut = true
  · rw [shut_put hs]
    rw [hs] at c2
    have H := Lib.hid h
    clear h c0 c1 f1
    go_enter Try.func12, Try.ntmps12
    go_wp2_with fail
    first | go_end0 | refine bodyPost_ret (results_none rfl _ _ _) rfl ?_
    exact ⟨rfl, G, H.out, fun i hi => .inl hi, Only.refl _ _⟩
  · have hs : s.shut = false := by simpa using hs
    rw [open_put hs]
    rw [hs] at c2
    obtain ⟨i, hi, hz0, hz1, hz2⟩ := info_parts info_u8
    obtain ⟨A', c', hB, hS, hg, hne, hold⟩ := h
    rw [show w.cell? ⟨g, 1, none⟩ = some (.slice A' s.l.length c') from hB.cell 1] at c1
    obtain ⟨rfl, rfl⟩ : A' = A ∧ c' = c := by injection c1 with c1; injection c1 with e1 _ e2; exact ⟨e1, e2⟩
    have c1 : w.cell? ⟨g, 1, none⟩ = some (.slice A' s.l.length c') := hB.cell 1
    have c1a : (w.alloc (.cells #[] 5)).cell? ⟨g, 1, none⟩ = some (.slice A' s.l.length c') := (hB.alloc _).cell 1
    have HB := Lib.hid hB
    have HS := Lib.hid hS
    have HG := Lib.hid hg
    have HL := Lib.hid hl
    have HSH := Lib.hid hs
    clear hB hS hg hne hold hl c0
    go_enter Try.func12, Try.ntmps12
    go_wp2_with (at_builtin; refine wpList_app _ rfl (.tmp 10) (.tmp 14) 40 rfl w.heap.size 5 i _ 1 Try.underlying40 hi hz0 hz1 hz2 rfl _ 0 [] rfl (own_empty w (Nat.le_refl _) _) A' s.l.length c' (bv s.l) rfl (HS.out.alloc _) (bv_one s.l) (by have := HL.out; omega) (by omega) (by simp) ?_)
    intro A2 c2' w2 ho hg2
    have hb2 : Below w.heap.size w w2 := ((Below.refl _ _).alloc (Nat.le_refl _) _).trans (below_of_only hg2 (Nat.le_refl _) (by simp))
    have HO := Lib.hid ho
    have HB2 := Lib.hid hb2
    have HNW := Lib.hid (sl_one w2 5 (.int .u8 (b.toNat : Int)))
    clear ho hg2 hb2 c1a
    go_wp2_with (at_builtin; refine wpList_app _ rfl (.tmp 15) (.tmp 17) 40 rfl w.heap.size 5 i _ 1 Try.underlying40 hi hz0 hz1 hz2 rfl _ s.l.length (bv s.l) rfl (HO.out.alloc _) (some ⟨w2.heap.size, 0, none⟩) 1 1 [.int .u8 (b.toNat : Int)] rfl HNW.out (one_one _ _) (by have := HL.out; omega) (by omega) (by have := HB2.out.size; simp; omega) ?_)
    intro A4 c4' w4 ho4 hg4
    have hb4 : Below w.heap.size w w4 := (HB2.out.alloc HB2.out.size _).trans (below_grown (HO.out.alloc _) hg4 (by have := HB2.out.size; simp; omega))
    have hB4 : Blk w4 g 42 _ := HB.out.below hb4
    have k1 : w4.cell? ⟨g, 1, none⟩ = some (.slice A' s.l.length c') := hB4.cell 1
    have z1 : w4.frozen? ⟨g, 1, none⟩ = false := hB4.free 1
    have HO4 := Lib.hid ho4
    have HB4 := Lib.hid hB4
    have HBL4 := Lib.hid hb4
    clear ho4 hg4 hb4 hB4 HO HB2 HNW
    go_wp2_with fail
    first | go_end0 | refine bodyPost_ret (results_none rfl _ _ _) rfl ?_
    have hlt := HB.out.lt
    have hsz := HBL4.out.size
    obtain ⟨hS4, _, _, hA4⟩ := own_facts HO4.out
    have hO := (Only.refl (fun i => i = g) w4).setCell (p := ⟨g, 1, none⟩) (.inl rfl) (.slice A4 (s.l.length + 1) c4')
    refine ⟨rfl, fun i => i = g ∨ (w.heap.size ≤ i ∧ i < w4.heap.size), ⟨A4, c4', ?_, ?_, .inl rfl, fun _ b o e => ?_, fun i hi => ?_⟩, fun i hi => ?_, (Only.of_below HBL4.out).setCell (p := ⟨g, 1, none⟩) (.inl HG.out) _⟩
    · have := HB4.out.put 1 (.slice A4 (s.l.length + 1) c4')
      show Blk _ g _ (wrCells s.sz A4 (s.l ++ [b]).length c4' false)
      rw [List.length_append, ← HSH.out]
      exact this
    · show Sl _ A4 (s.l ++ [b]).length (bv (s.l ++ [b]))
      rw [List.length_append, bv_append]
      exact hS4.only hO (fun _ q o e => by have := hA4 q o e; omega)
    · have := hA4 b o e
      exact ⟨.inr this, by omega⟩
    · show i < (w4.setCell ⟨g, 1, none⟩ _).heap.size
      simp only [World.setCell]
      rcases hi with hi | hi
      · simp; omega
      · simp; omega
    · rcases hi with hi | hi
      · exact .inl (hi ▸ HG.out)
      · exact .inr hi.1
end
end Go.Proofs.Ytnokbibkjhhcoaa
