/-
  PcGive, RdRev, PcEven, PcLevel, PcBit: put together.
-/
import Derived.Test.YtdnkoeafnnohnaaY03
import Derived.Test.YtdnkoeafnnohnaaY04
import Derived.Deep.RegionLaw
import Derived.LoopN
import Derived.LoopTactic
import Derived.Test.YtdnkoeafnnohnaaY02
set_option linter.unusedVariables false
set_option linter.unusedSimpArgs false
/-
  The program's coder in memory; what waited is given.
-/
namespace Go.Proofs.Ytdnkoeafnnohnaa
open Go.RowKit

def pcCells (lo r : Nat) (v : Value) (wt fu : Nat) : Array Value := #[.int .u64 (lo : Int), .int .u32 (r : Int), v, .int .u8 (wt : Int), .int .i64 (fu : Int)]

/-- Block g is the program's coder, c, its range r; G is its bytes' block, if there is one. -/
def Pw (w : World) (g : Nat) (G : Option Nat) (c : Co) (r : Nat) : Prop :=
  ∃ A m, Blk w g 78 (pcCells c.lo r (.slice A c.gs.length m) c.wt c.fu) ∧ w.ownsRow 0 5 1 (.slice A c.gs.length m) c.gs.length (bv c.gs) ∧ (Value.slice A c.gs.length m).ownBlock = G ∧ G ≠ some g

def pset (g : Nat) (G : Option Nat) : Nat → Prop := fun i => i = g ∨ G = some i
/-- G' is no old block but G -/
def Nwr (w : World) (G G' : Option Nat) : Prop := ∀ i, G' = some i → G = some i ∨ w.heap.size ≤ i
theorem Nwr.refl (w : World) (G : Option Nat) : Nwr w G G := fun _ h => .inl h
theorem Nwr.trans {w w' : World} {G G' G'' : Option Nat} (h : Nwr w G G') (k : Nwr w' G' G'') (hs : w.heap.size ≤ w'.heap.size) : Nwr w G G'' := fun i hi => by
  rcases k i hi with h1 | h1
  · exact h i h1
  · exact .inr (Nat.le_trans hs h1)
theorem pset_trans {w w1 w2 : World} {g : Nat} {G G1 : Option Nat} (h : Only (pset g G) w w1) (hn : Nwr w G G1) (k : Only (pset g G1) w1 w2) : Only (pset g G) w w2 :=
  h.trans' k fun i hi => by
    rcases hi with hi | hi
    · exact .inl (.inl hi)
    · rcases hn i hi with h1 | h1
      · exact .inl (.inr h1)
      · exact .inr h1

section
variable {w w' : World} {g : Nat} {G : Option Nat} {c : Co} {r : Nat}
theorem Pw.lt (h : Pw w g G c r) : g < w.heap.size := by obtain ⟨A, m, hB, _⟩ := h; exact hB.lt
theorem Pw.old (h : Pw w g G c r) {i : Nat} (hi : G = some i) : i < w.heap.size := by obtain ⟨A, m, hB, hO, hG, _⟩ := h; exact own_old hO (hG.trans hi)
theorem Pw.only {S : Nat → Prop} (h : Pw w g G c r) (hb : Only S w w') (hg : ¬ S g) (hG : ∀ i, G = some i → ¬ S i) : Pw w' g G c r := by
  obtain ⟨A, m, hB, hO, hE, hn⟩ := h
  exact ⟨A, m, hB.only hb hg, own_only' hO hb (fun i hi => hG i (hE.symm.trans hi)), hE, hn⟩
theorem Pw.drewN (h : Pw w g G c r) (n : Nat) : Pw (w.drewN n) g G c r := h
end

/-- What a call of the program's coder leaves. -/
def PwPost (w : World) (g : Nat) (G : Option Nat) (v : Value) (c : Co) (r : Nat) (e : Ending) (w' : World) : Prop :=
  e = .returned v ∧ ∃ G', Pw w' g G' c r ∧ Nwr w G G' ∧ Only (pset g G) w w'

/-- One byte more, and the cell that leads to the bytes is stored. -/
theorem pushed {w w1 w3 : World} {g : Nat} {G : Option Nat} {A : Option Addr} {gs : List UInt8} {m q' c' lo r wt fu : Nat} {x : UInt8} {u : Value} (hu : u = .int .u8 (x.toNat : Int))
    (hB : Blk w g 78 (pcCells lo r (.slice A gs.length m) wt fu)) (hO : w.ownsRow 0 5 1 (.slice A gs.length m) gs.length (bv gs)) (hG : (Value.slice A gs.length m).ownBlock = G) (hne : G ≠ some g)
    (h1 : Only (fun _ => False) w w1) (ho : w3.ownsRow 0 5 1 (.slice (some ⟨q', 0, none⟩) (gs.length + 1) c') (gs.length + 1) (bv gs ++ [u])) (hg : w1.grownBy w3 (Value.slice A gs.length m).ownBlock)
    (hq : (Value.slice A gs.length m).ownBlock = some q' ∨ q' = w1.heap.size) :
    Pw (w3.setCell ⟨g, 2, none⟩ (.slice (some ⟨q', 0, none⟩) (gs.length + 1) c')) g (some q') ⟨gs ++ [x], wt, fu, lo⟩ r ∧ Nwr w G (some q') ∧ Only (pset g G) w (w3.setCell ⟨g, 2, none⟩ (.slice (some ⟨q', 0, none⟩) (gs.length + 1) c')) := by
  subst hu
  have hgl := hB.lt
  have hs1 := h1.size
  have hqg : q' ≠ g := by
    rcases hq with h | h
    · intro e; subst e; exact hne (hG.symm.trans h)
    · omega
  have hB1 : Blk w1 g 78 _ := hB.only h1 (fun h => h)
  have hB3 : Blk w3 g 78 _ := hB1.grown hg (by intro e; exact hne (hG.symm.trans e.symm))
  have h3 : Only (pset g G) w w3 := by
    refine (h1.mono (S' := pset g G) (fun _ h => h.elim)).trans ⟨hg.os, hg.tape, hg.output, hg.size, fun i hi hn => hg.block i hi fun e => hn (.inr (hG.symm.trans e.symm))⟩
  refine ⟨⟨some ⟨q', 0, none⟩, c', ?_, ?_, rfl, fun e => hqg (by injection e)⟩, ?_, h3.setCell (p := ⟨g, 2, none⟩) (.inl (.inl rfl)) _⟩
  · have := hB3.put 2 (.slice (some ⟨q', 0, none⟩) (gs.length + 1) c')
    show Blk _ g _ (pcCells lo r (.slice (some ⟨q', 0, none⟩) (gs ++ [x]).length c') wt fu)
    rw [List.length_append]
    exact this
  · show World.ownsRow _ 0 5 1 (.slice (some ⟨q', 0, none⟩) (gs ++ [x]).length c') (gs ++ [x]).length (bv (gs ++ [x]))
    rw [List.length_append, bv_append]
    exact own_only (S := fun i => i = g) ho ((Only.refl (fun i => i = g) w3).setCell (p := ⟨g, 2, none⟩) (.inl rfl) _) hqg
  · intro i hi
    injection hi with hi
    subst hi
    rcases hq with h | h
    · exact .inl (hG.symm.trans h)
    · exact .inr (by omega)

theorem u8_more (wt k : Nat) (h : wt + k < 512) : IntKind.u8.wrap ((wt : Int) + (k : Int)) = ((UInt8.ofNat (wt + k)).toNat : Int) := by
  simp [IntKind.wrap, IntKind.bits, IntKind.signed]

theorem rep_snoc (base : List UInt8) (j : Nat) (y : UInt8) : base ++ List.replicate j y ++ [y] = base ++ List.replicate (j + 1) y := by
  rw [List.append_assoc, List.replicate_succ']

/-- behind the first byte: those that waited with it -/
def WaitRel (w : World) (g : Nat) (G : Option Nat) (base : List UInt8) (y : UInt8) (wt fu lo r : Nat) (i : Value) (wr : World) : Prop :=
  ∃ j G', j ≤ fu ∧ i = .int .i64 (j : Int) ∧ Pw wr g G' ⟨base ++ List.replicate j y, wt, fu, lo⟩ r ∧ Nwr w G G' ∧ Only (pset g G) w wr

set_option maxHeartbeats 4000000 in
theorem giveWaiting_any {w : World} {g : Nat} {G : Option Nat} {c : Co} {r : Nat} (b : Bool) (h : Pw w g G c r) (hw : c.wt < 256) (hlen : c.gs.length + c.fu ≤ 1000000000) :
    Calls Try.prog 54 #[.pointer (some ⟨g, 0, none⟩), .bool b] w (PwPost w g G (.tuple #[]) ⟨c.gave (if b = true then 1 else 0), c.wt, 0, c.lo⟩ r) := by
  obtain ⟨i, hi, hz0, hz1, hz2⟩ := info_parts info_u8
  obtain ⟨gs, wt, fu, lo⟩ := c
  obtain ⟨A, m, hB, hO, hG, hne⟩ := h
  simp only [] at hB hO hG hw hlen
  obtain ⟨k, hk⟩ : ∃ k, k = if b = true then 1 else 0 := ⟨_, rfl⟩
  have hk1 : k ≤ 1 := by cases b <;> simp at hk <;> omega
  rw [← hk]
  have c2 : w.cell? ⟨g, 2, none⟩ = some (.slice A gs.length m) := hB.cell 2
  have c3 : w.cell? ⟨g, 3, none⟩ = some (.int .u8 (wt : Int)) := hB.cell 3
  have e1 := u8_more wt k (by omega)
  obtain ⟨x, hx⟩ : ∃ x, x = UInt8.ofNat (wt + k) := ⟨_, rfl⟩
  rw [← hx] at e1
  have c2a : (w.alloc (.cells #[.int .u8 (x.toNat : Int)] 5)).cell? ⟨g, 2, none⟩ = some (.slice A gs.length m) := (hB.alloc _).cell 2
  have HNW := Lib.hid (fun (n : Nat) (u : Value) => (sl_one (w.drewN n) 5 u).news)
  have HOA := Lib.hid (fun (n : Nat) (o : Obj) => World.ownsRow.alloc (show (w.drewN n).ownsRow 0 5 1 (.slice A gs.length m) gs.length (bv gs) from hO) o)
  have HX := Lib.hid hx
  have HK := Lib.hid hk
  have HB := Lib.hid hB
  have HO := Lib.hid hO
  have HG := Lib.hid hG
  have HNE := Lib.hid hne
  have HK1 := Lib.hid hk1
  clear hx hB hO hG hne hk1 hk
  have hn3 : ∀ n o, ∀ q' c' (w3 : World), w3.ownsRow 0 5 1 (.slice (some ⟨q', 0, none⟩) (gs.length + 1) c') (gs.length + 1) (bv gs ++ [.int .u8 (x.toNat : Int)]) → ((w.drewN n).alloc o).grownBy w3 (Value.slice A gs.length m).ownBlock → ((Value.slice A gs.length m).ownBlock = some q' ∨ q' = ((w.drewN n).alloc o).heap.size) →
      w3.cell? ⟨g, 2, none⟩ = some (.slice A gs.length m) ∧ w3.frozen? ⟨g, 2, none⟩ = false ∧ Pw (w3.setCell ⟨g, 2, none⟩ (.slice (some ⟨q', 0, none⟩) (gs.length + 1) c')) g (some q') ⟨gs ++ [x], wt, fu, lo⟩ r ∧ Nwr w G (some q') ∧ Only (pset g G) w (w3.setCell ⟨g, 2, none⟩ (.slice (some ⟨q', 0, none⟩) (gs.length + 1) c')) := by
    intro n o q' c' w3 ho hg hq
    have h1 : Only (fun _ => False) w ((w.drewN n).alloc o) := ((Only.refl _ w).drewN n).alloc o
    refine ⟨?_, ?_, pushed rfl HB.out HO.out HG.out HNE.out h1 ho hg hq⟩
    · have hB1 : Blk _ g 78 _ := HB.out.only h1 (fun h => h)
      have hB3 : Blk w3 g 78 _ := hB1.grown hg (by intro e; exact HNE.out (HG.out.symm.trans e.symm))
      exact hB3.cell 2
    · have hB1 : Blk _ g 78 _ := HB.out.only h1 (fun h => h)
      have hB3 : Blk w3 g 78 _ := hB1.grown hg (by intro e; exact HNE.out (HG.out.symm.trans e.symm))
      exact hB3.free 2
  have HN3 := Lib.hid hn3
  have HL := Lib.hid hlen
  clear hn3 hlen hw
  cases b
  · have hk0 : k = 0 := HK.out
    subst hk0
    have e1' : IntKind.u8.wrap (wt : Int) = (x.toNat : Int) := by simpa using e1
    clear e1
    go_enter Try.func54, Try.ntmps54
    go_wp2_with fail
    go_region_law (first | (refine step_append_lies _ rfl (.tmp 10) (.tmp 17) 22 rfl 0 5 i _ 1 1 Try.underlying22 hi hz0 hz1 hz2 rfl (by omega) _ gs.length (bv gs) rfl (HOA.out 1 _) _ 1 1 [.int .u8 (x.toNat : Int)] rfl rfl (HNW.out 1 _) (one_one _ _) (by omega) (by have := HL.out; unfold maxLen; omega) (by have := HL.out; omega) (Nat.zero_le _) _ rfl ?_; intro q' c' w3 ho hg hq hql3; obtain ⟨j2, z2, hP⟩ := HN3.out 1 _ q' c' w3 ho hg hq; have HP := Lib.hid hP; clear ho hg hq hP))
    all_goals
      clear c2 c3 c2a HNW HOA HN3 HO HB j2 z2
      obtain ⟨hP1, hN1, hO1⟩ := HP.out
      clear HP
      generalize w3.setCell ⟨g, 2, none⟩ (.slice (some ⟨q', 0, none⟩) (gs.length + 1) c') = w4 at *
      have c4 : w4.cell? ⟨g, 4, none⟩ = some (.int .i64 (fu : Int)) := by obtain ⟨A1, m1, hB1, _⟩ := hP1; exact hB1.cell 4
      have HP1 := Lib.hid hP1
      have HN1 := Lib.hid hN1
      have HO1 := Lib.hid hO1
      clear hP1 hN1 hO1 HG HNE
      go_wp2_with fail
      go_loopw [25] (fun i wr => WaitRel w g G (gs ++ [x]) 255 wt fu lo r i wr) (fun i _ => fu - (intOf i).toNat)
      case atStart => exact ⟨0, some q', Nat.zero_le _, rfl, by rw [List.replicate_zero, List.append_nil]; exact HP1.out, HN1.out, HO1.out⟩
      case round =>
        clear HP1 HN1 HO1 c4
        obtain ⟨j, G', hj, rfl, hP, hN, hO⟩ := hrel
        obtain ⟨B, hBB⟩ : ∃ B, B = gs ++ [x] ++ List.replicate j 255 := ⟨_, rfl⟩
        have hBl : B.length = gs.length + 1 + j := by rw [hBB]; simp; omega
        have HBB := Lib.hid hBB
        rw [← hBB] at hP
        have HP := Lib.hid hP
        obtain ⟨A', m', hB', hO', hG', hne'⟩ := hP
        simp only [] at hB' hO' hG'
        have hnx : B ++ [255] = gs ++ [x] ++ List.replicate (j + 1) 255 := by rw [hBB, rep_snoc]
        have HNX := Lib.hid hnx
        have HBL := Lib.hid hBl
        have c2 : wr.cell? ⟨g, 2, none⟩ = some (.slice A' B.length m') := hB'.cell 2
        have HB' := Lib.hid hB'
        have HO' := Lib.hid hO'
        have HG' := Lib.hid hG'
        have HNE' := Lib.hid hne'
        have HN := Lib.hid hN
        have HO := Lib.hid hO
        have HNW := Lib.hid (sl_one wr 5 (.int .u8 255)).news
        clear hBB hBl hnx hB' hO' hG' hne' hN hO
        by_cases hlt : j < fu
        · have hlt' : (j : Int) < (fu : Int) := by omega
          have ej : IntKind.i64.wrap ((j : Int) + 1) = (j : Int) + 1 := IntWalk.i64_in _ (by have := HL.out; omega)
          go_wp2_with (at_builtin; refine wpList_append_lies _ rfl (.tmp 31) (.tmp 34) 22 rfl 0 5 i _ 1 1 Try.underlying22 hi hz0 hz1 hz2 rfl (by omega) _ B.length (bv B) rfl (HO'.out.alloc _) _ 1 1 [.int .u8 255] rfl rfl HNW.out (one_one _ _) (by omega) (by have := HL.out; have := HBL.out; unfold maxLen; omega) (by have := HL.out; have := HBL.out; omega) (Nat.zero_le _) _ rfl ?_)
          intro q2 c2' w3 ho hg hq hql3
          have h1 : Only (fun _ => False) wr (wr.alloc (.cells #[.int .u8 255] 5)) := (Only.refl _ wr).alloc _
          have hB1 : Blk _ g 78 _ := HB'.out.only h1 (fun h => h)
          have hB3 : Blk w3 g 78 _ := hB1.grown hg (by intro e; exact HNE'.out (HG'.out.symm.trans e.symm))
          have j2 : w3.cell? ⟨g, 2, none⟩ = some (.slice A' B.length m') := hB3.cell 2
          have z2 : w3.frozen? ⟨g, 2, none⟩ = false := hB3.free 2
          obtain ⟨hP2, hN2, hO2⟩ := pushed (x := 255) (by rfl) HB'.out HO'.out HG'.out HNE'.out h1 ho hg (hq.imp id (fun h => by rw [h]; simp))
          have HP2 := Lib.hid hP2
          have HN2 := Lib.hid (HN.out.trans hN2 HO.out.size)
          have HO2 := Lib.hid (pset_trans HO.out HN.out hO2)
          clear ho hg hq h1 hB1 hB3 hP2 hN2 hO2 HN HO HNW HB' HO' HG' HNE' HP c2
          go_wp2_with fail
          go_roundw
          case rel =>
            have hj9 : j < 1000000000 := by have := HL.out; omega
            exact ⟨j + 1, some q2, by omega, by go_num, by rw [← HNX.out]; exact HP2.out, HN2.out, HO2.out⟩
          case measure =>
            have hj9 : j < 1000000000 := by have := HL.out; omega
            simp [intOf]; omega
        · obtain rfl : j = fu := by omega
          have z4 : wr.frozen? ⟨g, 4, none⟩ = false := HB'.out.free 4
          have c4 : wr.cell? ⟨g, 4, none⟩ = some (.int .i64 (j : Int)) := HB'.out.cell 4
          have hirr : ¬ (j : Int) < (j : Int) := by omega
          clear hlt
          go_wp2_with fail
          first | go_end0 | refine bodyPost_ret (results_none rfl _ _ _) rfl ?_
          have e : (Co.gave ⟨gs, wt, j, lo⟩ 0) = B := by
            rw [HBB.out, HX.out, List.append_assoc]
            rfl
          rw [e]
          refine ⟨rfl, G', ⟨A', m', HB'.out.put 4 (.int .i64 0), ?_, HG'.out, HNE'.out⟩, HN.out, HO.out.setCell (p := ⟨g, 4, none⟩) (.inl (.inl rfl)) _⟩
          exact own_only' (S := fun i => i = g) HO'.out ((Only.refl (fun i => i = g) wr).setCell (p := ⟨g, 4, none⟩) (.inl rfl) _) (fun i hi e => HNE'.out (HG'.out.symm.trans (e ▸ hi)))
  · have hk0 : k = 1 := HK.out
    subst hk0
    have e1' : IntKind.u8.wrap ((wt : Int) + 1) = (x.toNat : Int) := by simpa using e1
    clear e1
    go_enter Try.func54, Try.ntmps54
    go_wp2_with fail
    go_region_law (first | (refine step_append_lies _ rfl (.tmp 10) (.tmp 17) 22 rfl 0 5 i _ 1 1 Try.underlying22 hi hz0 hz1 hz2 rfl (by omega) _ gs.length (bv gs) rfl (HOA.out 1 _) _ 1 1 [.int .u8 (x.toNat : Int)] rfl rfl (HNW.out 1 _) (one_one _ _) (by omega) (by have := HL.out; unfold maxLen; omega) (by have := HL.out; omega) (Nat.zero_le _) _ rfl ?_; intro q' c' w3 ho hg hq hql3; obtain ⟨j2, z2, hP⟩ := HN3.out 1 _ q' c' w3 ho hg hq; have HP := Lib.hid hP; clear ho hg hq hP))
    all_goals
      clear c2 c3 c2a HNW HOA HN3 HO HB j2 z2
      obtain ⟨hP1, hN1, hO1⟩ := HP.out
      clear HP
      generalize w3.setCell ⟨g, 2, none⟩ (.slice (some ⟨q', 0, none⟩) (gs.length + 1) c') = w4 at *
      have c4 : w4.cell? ⟨g, 4, none⟩ = some (.int .i64 (fu : Int)) := by obtain ⟨A1, m1, hB1, _⟩ := hP1; exact hB1.cell 4
      have HP1 := Lib.hid hP1
      have HN1 := Lib.hid hN1
      have HO1 := Lib.hid hO1
      clear hP1 hN1 hO1 HG HNE
      go_wp2_with fail
      go_loopw [25] (fun i wr => WaitRel w g G (gs ++ [x]) 0 wt fu lo r i wr) (fun i _ => fu - (intOf i).toNat)
      case atStart => exact ⟨0, some q', Nat.zero_le _, rfl, by rw [List.replicate_zero, List.append_nil]; exact HP1.out, HN1.out, HO1.out⟩
      case round =>
        clear HP1 HN1 HO1 c4
        obtain ⟨j, G', hj, rfl, hP, hN, hO⟩ := hrel
        obtain ⟨B, hBB⟩ : ∃ B, B = gs ++ [x] ++ List.replicate j 0 := ⟨_, rfl⟩
        have hBl : B.length = gs.length + 1 + j := by rw [hBB]; simp; omega
        have HBB := Lib.hid hBB
        rw [← hBB] at hP
        have HP := Lib.hid hP
        obtain ⟨A', m', hB', hO', hG', hne'⟩ := hP
        simp only [] at hB' hO' hG'
        have hnx : B ++ [0] = gs ++ [x] ++ List.replicate (j + 1) 0 := by rw [hBB, rep_snoc]
        have HNX := Lib.hid hnx
        have HBL := Lib.hid hBl
        have c2 : wr.cell? ⟨g, 2, none⟩ = some (.slice A' B.length m') := hB'.cell 2
        have HB' := Lib.hid hB'
        have HO' := Lib.hid hO'
        have HG' := Lib.hid hG'
        have HNE' := Lib.hid hne'
        have HN := Lib.hid hN
        have HO := Lib.hid hO
        have HNW := Lib.hid (sl_one wr 5 (.int .u8 0)).news
        clear hBB hBl hnx hB' hO' hG' hne' hN hO
        by_cases hlt : j < fu
        · have hlt' : (j : Int) < (fu : Int) := by omega
          have ej : IntKind.i64.wrap ((j : Int) + 1) = (j : Int) + 1 := IntWalk.i64_in _ (by have := HL.out; omega)
          go_wp2_with (at_builtin; refine wpList_append_lies _ rfl (.tmp 31) (.tmp 34) 22 rfl 0 5 i _ 1 1 Try.underlying22 hi hz0 hz1 hz2 rfl (by omega) _ B.length (bv B) rfl (HO'.out.alloc _) _ 1 1 [.int .u8 0] rfl rfl HNW.out (one_one _ _) (by omega) (by have := HL.out; have := HBL.out; unfold maxLen; omega) (by have := HL.out; have := HBL.out; omega) (Nat.zero_le _) _ rfl ?_)
          intro q2 c2' w3 ho hg hq hql3
          have h1 : Only (fun _ => False) wr (wr.alloc (.cells #[.int .u8 0] 5)) := (Only.refl _ wr).alloc _
          have hB1 : Blk _ g 78 _ := HB'.out.only h1 (fun h => h)
          have hB3 : Blk w3 g 78 _ := hB1.grown hg (by intro e; exact HNE'.out (HG'.out.symm.trans e.symm))
          have j2 : w3.cell? ⟨g, 2, none⟩ = some (.slice A' B.length m') := hB3.cell 2
          have z2 : w3.frozen? ⟨g, 2, none⟩ = false := hB3.free 2
          obtain ⟨hP2, hN2, hO2⟩ := pushed (x := 0) (by rfl) HB'.out HO'.out HG'.out HNE'.out h1 ho hg (hq.imp id (fun h => by rw [h]; simp))
          have HP2 := Lib.hid hP2
          have HN2 := Lib.hid (HN.out.trans hN2 HO.out.size)
          have HO2 := Lib.hid (pset_trans HO.out HN.out hO2)
          clear ho hg hq h1 hB1 hB3 hP2 hN2 hO2 HN HO HNW HB' HO' HG' HNE' HP c2
          go_wp2_with fail
          go_roundw
          case rel =>
            have hj9 : j < 1000000000 := by have := HL.out; omega
            exact ⟨j + 1, some q2, by omega, by go_num, by rw [← HNX.out]; exact HP2.out, HN2.out, HO2.out⟩
          case measure =>
            have hj9 : j < 1000000000 := by have := HL.out; omega
            simp [intOf]; omega
        · obtain rfl : j = fu := by omega
          have z4 : wr.frozen? ⟨g, 4, none⟩ = false := HB'.out.free 4
          have c4 : wr.cell? ⟨g, 4, none⟩ = some (.int .i64 (j : Int)) := HB'.out.cell 4
          have hirr : ¬ (j : Int) < (j : Int) := by omega
          clear hlt
          go_wp2_with fail
          first | go_end0 | refine bodyPost_ret (results_none rfl _ _ _) rfl ?_
          have e : (Co.gave ⟨gs, wt, j, lo⟩ 1) = B := by
            rw [HBB.out, HX.out, List.append_assoc]
            rfl
          rw [e]
          refine ⟨rfl, G', ⟨A', m', HB'.out.put 4 (.int .i64 0), ?_, HG'.out, HNE'.out⟩, HN.out, HO.out.setCell (p := ⟨g, 4, none⟩) (.inl (.inl rfl)) _⟩
          exact own_only' (S := fun i => i = g) HO'.out ((Only.refl (fun i => i = g) wr).setCell (p := ⟨g, 4, none⟩) (.inl rfl) _) (fun i hi e => HNE'.out (HG'.out.symm.trans (e ▸ hi)))
end Go.Proofs.Ytdnkoeafnnohnaa

/-
  What the decoder's bits stand on.
-/
namespace Go.Proofs.Ytdnkoeafnnohnaa
open Go.RowKit
theorem ofInt_u64' (a : Nat) (h : a < 18446744073709551616) : (BitVec.ofInt 64 (a : Int)).toNat = a := by simp; omega
end Go.Proofs.Ytdnkoeafnnohnaa

/-
  The program's coder gives a byte.
-/
namespace Go.Proofs.Ytdnkoeafnnohnaa
open Go.RowKit

theorem low_and (lo : Nat) (h : lo < 8589934592) : bits .and .u64 (IntKind.u64.wrap ((lo : Int) * 256)) 4294967295 = ((lo % 16777216 * 256 : Nat) : Int) := by
  have e : IntKind.u64.wrap ((lo : Int) * 256) = ((lo * 256 : Nat) : Int) := by rw [show (lo : Int) * 256 = ((lo * 256 : Nat) : Int) by omega]; exact u64_in _ (by omega)
  rw [e]
  show IntKind.u64.wrap ((BitVec.ofInt 64 ((lo * 256 : Nat) : Int) &&& BitVec.ofInt 64 ((4294967295 : Nat) : Int)).toNat : Int) = _
  rw [BitVec.toNat_and, ofInt_u64' _ (by omega), ofInt_u64' _ (by omega), show (4294967295 : Nat) = 2 ^ 32 - 1 from rfl, Nat.and_two_pow_sub_one_eq_mod, show lo * 256 % 2 ^ 32 = lo % 16777216 * 256 by omega]
  exact u64_in _ (by omega)

section
variable {w : World} {g : Nat} {G : Option Nat} {c : Co} {r : Nat}

theorem giveWaiting_one (h : Pw w g G c r) (hw : c.wt < 256) (hlen : c.gs.length + c.fu ≤ 1000000000) :
    Calls Try.prog 54 #[.pointer (some ⟨g, 0, none⟩), .bool true] w (PwPost w g G (.tuple #[]) ⟨c.gave 1, c.wt, 0, c.lo⟩ r) := giveWaiting_any true h hw hlen
theorem giveWaiting_zero (h : Pw w g G c r) (hw : c.wt < 256) (hlen : c.gs.length + c.fu ≤ 1000000000) :
    Calls Try.prog 54 #[.pointer (some ⟨g, 0, none⟩), .bool false] w (PwPost w g G (.tuple #[]) ⟨c.gave 0, c.wt, 0, c.lo⟩ r) := giveWaiting_any false h hw hlen

/-- behind what waited: a byte waits now, and low -/
theorem gave_end {w w1 : World} {G1 : Option Nat} {t lo lo' wt : Nat} {gs : List UInt8} (h : Pw w1 g G1 ⟨gs, wt, 0, lo⟩ r) (hN : Nwr w G G1) (hO : Only (pset g G) w w1) :
    PwPost w g G (.tuple #[]) ⟨gs, t, 0, lo'⟩ r (.returned (.tuple #[])) ((w1.setCell ⟨g, 3, none⟩ (.int .u8 (t : Int))).setCell ⟨g, 0, none⟩ (.int .u64 (lo' : Int))) := by
  obtain ⟨A, m, hB, hOw, hG, hne⟩ := h
  refine ⟨rfl, G1, ⟨A, m, (hB.put 3 (.int .u8 (t : Int))).put 0 (.int .u64 (lo' : Int)), ?_, hG, hne⟩, hN, (hO.setCell (p := ⟨g, 3, none⟩) (.inl (.inl rfl)) _).setCell (p := ⟨g, 0, none⟩) (.inl (.inl rfl)) _⟩
  exact own_only' (S := fun i => i = g) hOw (((Only.refl (fun i => i = g) w1).setCell (p := ⟨g, 3, none⟩) (.inl rfl) _).setCell (p := ⟨g, 0, none⟩) (.inl rfl) _) (fun i hi e => hne (hG.symm.trans (e ▸ hi)))

set_option maxHeartbeats 4000000 in
theorem give_any (h : Pw w g G c r) (hw : c.wt < 256) (hlo : c.lo < 8589934592) (hlen : c.gs.length + c.fu ≤ 999999999) :
    Calls Try.prog 43 #[.pointer (some ⟨g, 0, none⟩)] w (PwPost w g G (.tuple #[]) c.give r) := by
  have ea := low_and c.lo hlo
  have ea2 : bits .and .u64 ((c.lo : Int) * 256) 4294967295 = ((c.lo % 16777216 * 256 : Nat) : Int) := by
    have := low_and c.lo hlo
    have e : IntKind.u64.wrap ((c.lo : Int) * 256) = (c.lo : Int) * 256 := by rw [show (c.lo : Int) * 256 = ((c.lo * 256 : Nat) : Int) by omega]; exact u64_in _ (by omega)
    rwa [e] at this
  have c0 : w.cell? ⟨g, 0, none⟩ = some (.int .u64 (c.lo : Int)) := by obtain ⟨A1, m1, hB1, _⟩ := h; exact hB1.cell 0
  by_cases hc : 4294967296 ≤ c.lo
  · have hgive : c.give = ⟨c.gave 1, c.lo / 16777216 % 256, 0, c.lo % 16777216 * 256⟩ := by unfold Co.give; rw [if_pos hc]
    rw [hgive]
    have K := Lib.hid (giveWaiting_one h hw (by omega))
    have hgt : (c.lo : Int) > 4294967295 := by omega
    obtain ⟨t, ht⟩ : ∃ t : Nat, t = c.lo / 16777216 % 256 := ⟨_, rfl⟩
    have et1 : (c.lo : Int) / 16777216 % 256 = (t : Int) := by omega
    have et2 : IntKind.u8.wrap ((c.lo : Int) / 16777216) = (t : Int) := by simp [IntKind.wrap, IntKind.bits, IntKind.signed]; exact et1
    rw [← ht]
    clear hgive hc hlo hw hlen h ht
    generalize c.lo % 16777216 * 256 = lo' at *
    generalize c.lo = lo at *
    go_enter Try.func43, Try.ntmps43
    go_wp2_with fail
    refine K.out.mono ?_
    rintro e w1 ⟨rfl, G1, hP, hN, hO⟩
    obtain ⟨j0, j3, z0, z3⟩ : w1.cell? ⟨g, 0, none⟩ = some (.int .u64 (lo : Int)) ∧ w1.cell? ⟨g, 3, none⟩ = some (.int .u8 (c.wt : Int)) ∧ w1.frozen? ⟨g, 0, none⟩ = false ∧ w1.frozen? ⟨g, 3, none⟩ = false := by
      obtain ⟨A1, m1, hB1, _⟩ := hP; exact ⟨hB1.cell 0, hB1.cell 3, hB1.free 0, hB1.free 3⟩
    have HP := Lib.hid hP
    have HN := Lib.hid hN
    have HO := Lib.hid hO
    clear hP hN hO K c0
    go_wp2_with fail
    first | go_end0 | refine bodyPost_ret (results_none rfl _ _ _) rfl ?_
    exact gave_end HP.out HN.out HO.out
  · have hgt : ¬ (c.lo : Int) > 4294967295 := by omega
    by_cases hl : c.lo < 4278190080
    · have hgive : c.give = ⟨c.gave 0, c.lo / 16777216, 0, c.lo % 16777216 * 256⟩ := by unfold Co.give; rw [if_neg hc, if_pos hl]
      rw [hgive]
      have K := Lib.hid (giveWaiting_zero h hw (by omega))
      have hll : (c.lo : Int) < 4278190080 := by omega
      obtain ⟨t, ht⟩ : ∃ t : Nat, t = c.lo / 16777216 := ⟨_, rfl⟩
      have et1 : (c.lo : Int) / 16777216 % 256 = (t : Int) := by omega
      have et2 : IntKind.u8.wrap ((c.lo : Int) / 16777216) = (t : Int) := by simp [IntKind.wrap, IntKind.bits, IntKind.signed]; exact et1
      rw [← ht]
      clear hgive hc hlo hw hlen h ht hl
      generalize c.lo % 16777216 * 256 = lo' at *
      generalize c.lo = lo at *
      go_enter Try.func43, Try.ntmps43
      go_wp2_with fail
      refine K.out.mono ?_
      rintro e w1 ⟨rfl, G1, hP, hN, hO⟩
      obtain ⟨j0, j3, z0, z3⟩ : w1.cell? ⟨g, 0, none⟩ = some (.int .u64 (lo : Int)) ∧ w1.cell? ⟨g, 3, none⟩ = some (.int .u8 (c.wt : Int)) ∧ w1.frozen? ⟨g, 0, none⟩ = false ∧ w1.frozen? ⟨g, 3, none⟩ = false := by
        obtain ⟨A1, m1, hB1, _⟩ := hP; exact ⟨hB1.cell 0, hB1.cell 3, hB1.free 0, hB1.free 3⟩
      have HP := Lib.hid hP
      have HN := Lib.hid hN
      have HO := Lib.hid hO
      clear hP hN hO K c0
      go_wp2_with fail
      first | go_end0 | refine bodyPost_ret (results_none rfl _ _ _) rfl ?_
      exact gave_end HP.out HN.out HO.out
    · have hgive : c.give = ⟨c.gs, c.wt, c.fu + 1, c.lo % 16777216 * 256⟩ := by unfold Co.give; rw [if_neg hc, if_neg hl]
      rw [hgive]
      have hll : ¬ (c.lo : Int) < 4278190080 := by omega
      have ef : IntKind.i64.wrap ((c.fu : Int) + 1) = ((c.fu + 1 : Nat) : Int) := by rw [show (c.fu : Int) + 1 = ((c.fu + 1 : Nat) : Int) by omega]; exact IntWalk.i64_in _ (by omega)
      obtain ⟨A, m, hB, hOw, hG, hne⟩ := h
      have c4 : w.cell? ⟨g, 4, none⟩ = some (.int .i64 (c.fu : Int)) := hB.cell 4
      have z0 : w.frozen? ⟨g, 0, none⟩ = false := hB.free 0
      have z4 : w.frozen? ⟨g, 4, none⟩ = false := hB.free 4
      have HB := Lib.hid hB
      have HOw := Lib.hid hOw
      have HG := Lib.hid hG
      have HNE := Lib.hid hne
      clear hgive hc hlo hw hlen hl hB hOw hG hne
      generalize c.lo % 16777216 * 256 = lo' at *
      generalize c.lo = lo at *
      generalize c.fu + 1 = fu' at *
      go_enter Try.func43, Try.ntmps43
      go_wp2_with fail
      first | go_end0 | refine bodyPost_ret (results_none rfl _ _ _) rfl ?_
      refine ⟨rfl, G, ⟨A, m, (HB.out.put 4 (.int .i64 (fu' : Int))).put 0 (.int .u64 (lo' : Int)), ?_, HG.out, HNE.out⟩, Nwr.refl _ _, ((Only.refl (pset g G) w).setCell (p := ⟨g, 4, none⟩) (.inl (.inl rfl)) _).setCell (p := ⟨g, 0, none⟩) (.inl (.inl rfl)) _⟩
      exact own_only' (S := fun i => i = g) HOw.out (((Only.refl (fun i => i = g) w).setCell (p := ⟨g, 4, none⟩) (.inl rfl) _).setCell (p := ⟨g, 0, none⟩) (.inl rfl) _) (fun i hi e => HNE.out (HG.out.symm.trans (e ▸ hi)))
end
end Go.Proofs.Ytdnkoeafnnohnaa

/-
  The program's coder: evened out; made; how many bytes; finished.
-/
namespace Go.Proofs.Ytdnkoeafnnohnaa
open Go.RowKit

/-- Block g is the program's coder; its state is e. -/
def Pn (w : World) (g : Nat) (G : Option Nat) (e : En) : Prop := ∃ c, Pw w g G c e.r ∧ CoN c e.n e.l e.r
def PnPost (w : World) (g : Nat) (G : Option Nat) (v : Value) (e' : En) (e : Ending) (w' : World) : Prop :=
  e = .returned v ∧ ∃ G', Pn w' g G' e' ∧ Nwr w G G' ∧ Only (pset g G) w w'

section
variable {w w' : World} {g : Nat} {G : Option Nat} {c : Co} {r : Nat} {e : En}
theorem Pn.lt (h : Pn w g G e) : g < w.heap.size := by obtain ⟨c, hP, _⟩ := h; exact hP.lt
theorem Pn.old (h : Pn w g G e) {i : Nat} (hi : G = some i) : i < w.heap.size := by obtain ⟨c, hP, _⟩ := h; exact hP.old hi
theorem Pn.only {S : Nat → Prop} (h : Pn w g G e) (hb : Only S w w') (hg : ¬ S g) (hG : ∀ i, G = some i → ¬ S i) : Pn w' g G e := by
  obtain ⟨c, hP, hc⟩ := h
  exact ⟨c, hP.only hb hg hG, hc⟩
theorem Pn.drewN (h : Pn w g G e) (n : Nat) : Pn (w.drewN n) g G e := h
theorem Pw.span {w : World} {g : Nat} {G : Option Nat} {c : Co} {r R : Nat} (h : Pw w g G c r) : Pw (w.setCell ⟨g, 1, none⟩ (.int .u32 (R : Int))) g G c R := by
  obtain ⟨A, m, hB, hOw, hG, hne⟩ := h
  exact ⟨A, m, hB.put 1 (.int .u32 (R : Int)), own_only' (S := fun i => i = g) hOw ((Only.refl (fun i => i = g) w).setCell (p := ⟨g, 1, none⟩) (.inl rfl) _) (fun i hi e => hne (hG.symm.trans (e ▸ hi))), hG, hne⟩
theorem Pw.cell1 {w : World} {g : Nat} {G : Option Nat} {c : Co} {r : Nat} (h : Pw w g G c r) : w.cell? ⟨g, 1, none⟩ = some (.int .u32 (r : Int)) ∧ w.frozen? ⟨g, 1, none⟩ = false := by
  obtain ⟨A, m, hB, _⟩ := h
  exact ⟨hB.cell 1, hB.free 1⟩

set_option maxHeartbeats 1000000 in
theorem evenOut_high (h : Pw w g G c r) (hr : ¬ r < 16777216) :
    Calls Try.prog 52 #[.pointer (some ⟨g, 0, none⟩)] w fun e w' => e = .returned (.tuple #[]) ∧ w = w' := by
  have c1 := h.cell1.1
  have hri : (r : Int) > 0 ∧ ¬ (r : Int) < 16777216 := by omega
  clear h hr
  generalize (r : Int) = ri at *
  have HR := Lib.hid hri
  clear hri
  go_enter Try.func52, Try.ntmps52
  go_wp2_with fail
  go_loopw [] (fun wr => wr = w) (fun _ => 0)
  case atStart => rfl
  case round =>
    subst hrel
    obtain ⟨h02, hr2⟩ := HR.out
    go_wp2_with fail
    first | go_end0 | refine bodyPost_ret (results_none rfl _ _ _) rfl ?_
    exact ⟨rfl, rfl⟩

/-- the range has been multiplied, and a byte given -/
def EvenDone (w wr : World) (g : Nat) (G : Option Nat) (c : Co) (R : Nat) : Prop := ∃ G', Pw wr g G' c.give R ∧ Nwr w G G' ∧ Only (pset g G) w wr
open Classical in
/-- whether the range is still the one that was -/
noncomputable def evenLeft (wr : World) (g : Nat) (ri : Int) : Nat := if wr.cell? ⟨g, 1, none⟩ = some (.int .u32 ri) then 1 else 0

set_option maxHeartbeats 4000000 in
theorem evenOut_low (h : Pw w g G c r) (hw : c.wt < 256) (hlo : c.lo < 8589934592) (hr : r < 16777216) (hr0 : 65536 ≤ r) (hlen : c.gs.length + c.fu ≤ 999999999) :
    Calls Try.prog 52 #[.pointer (some ⟨g, 0, none⟩)] w (PwPost w g G (.tuple #[]) c.give (r * 256)) := by
  obtain ⟨c1, f1⟩ := h.cell1
  have e1 : IntKind.u32.wrap ((r : Int) * 256) = ((r * 256 : Nat) : Int) := by rw [show (r : Int) * 256 = ((r * 256 : Nat) : Int) by omega]; exact u32_of _ (by omega) (by omega)
  have hrR : r ≠ r * 256 := by omega
  have hR2 : ¬ r * 256 < 16777216 := by omega
  have hR0 : 0 < r * 256 := by omega
  obtain ⟨R, hR⟩ : ∃ R, R = r * 256 := ⟨_, rfl⟩
  rw [← hR] at e1 hrR hR2 hR0
  rw [← hR]
  have K := Lib.hid (give_any (h.span (R := R)) hw hlo hlen)
  have HO := Lib.hid ((Only.refl (pset g G) w).setCell (p := ⟨g, 1, none⟩) (.inl (.inl rfl)) (.int .u32 (R : Int)))
  have HSZ := Lib.hid (show (w.setCell ⟨g, 1, none⟩ (.int .u32 (R : Int))).heap.size = w.heap.size by simp [World.setCell])
  obtain ⟨ri, hri⟩ : ∃ ri : Int, ri = (r : Int) := ⟨_, rfl⟩
  obtain ⟨Ri, hRi⟩ : ∃ Ri : Int, Ri = (R : Int) := ⟨_, rfl⟩
  have HF := Lib.hid (show ri > 0 ∧ ri < 16777216 ∧ Ri > 0 ∧ ¬ Ri < 16777216 ∧ Ri ≠ ri by omega)
  have HRI := Lib.hid hRi
  rw [← hri] at c1 e1
  rw [← hRi] at e1 K HO HSZ
  clear h hR hlen hw hlo hr hr0 hR2 hR0 hrR hri hRi
  go_enter Try.func52, Try.ntmps52
  go_wp2_with fail
  go_loopw [] (fun wr => wr = w ∨ EvenDone w wr g G c R) (fun wr => evenLeft wr g ri)
  case atStart => exact .inl rfl
  case round =>
    have HREL := Lib.hid hrel
    clear hrel
    rcases HREL.out with hw | hd
    · clear HREL
      obtain rfl : w = wr := hw.symm
      obtain ⟨h0, hr', _⟩ := HF.out
      go_wp2_with fail
      refine K.out.mono ?_
      rintro e w3 ⟨rfl, G', hP, hN, hO⟩
      have k1 := hP.cell1.1
      rw [← HRI.out] at k1
      have HD := Lib.hid (show EvenDone w w3 g G c R from ⟨G', hP, fun i hi => (hN i hi).imp id (fun h => by rw [HSZ.out] at h; exact h), HO.out.trans hO⟩)
      clear hP hN hO f1 K
      go_wp2_with fail
      go_roundw
      case rel => exact .inr HD.out
      case measure =>
        unfold evenLeft
        rw [if_neg (by rw [k1]; intro e; injection e with e; injection e with _ e; exact HF.out.2.2.2.2 e), if_pos c1]
        omega
    · clear HREL
      have HD := Lib.hid hd
      obtain ⟨G', hP, hN, hO⟩ := hd
      have k1 := hP.cell1.1
      rw [← HRI.out] at k1
      clear hP hN hO c1 f1
      obtain ⟨_, _, h0, hr2, _⟩ := HF.out
      go_wp2_with fail
      first | go_end0 | refine bodyPost_ret (results_none rfl _ _ _) rfl ?_
      exact ⟨rfl, HD.out⟩

theorem evenOut_any {n l : Nat} (h : Pw w g G c r) (hc : CoN c n l r) (hr0 : 65536 ≤ r) (hlen : l ≤ 1000000000) :
    Calls Try.prog 52 #[.pointer (some ⟨g, 0, none⟩)] w (PnPost w g G (.tuple #[]) (En.even ⟨n, l, r⟩)) := by
  unfold En.even
  have hl := hc.len
  by_cases hr : r < 16777216
  · rw [if_pos hr]
    refine (evenOut_low h hc.wt hc.low hr hr0 (by omega)).mono ?_
    rintro e w' ⟨rfl, G', hP, hN, hO⟩
    exact ⟨rfl, G', ⟨c.give, hP, hc.give hr⟩, hN, hO⟩
  · rw [if_neg hr]
    refine (evenOut_high h hr).mono ?_
    rintro e w' ⟨rfl, rfl⟩
    exact ⟨rfl, G, ⟨c, h, hc⟩, Nwr.refl _ _, Only.refl _ _⟩

set_option maxHeartbeats 1000000 in
theorem cnew_any (w : World) : Calls Try.prog 23 #[] w fun e w' => e = .returned (.pointer (some ⟨w.heap.size, 0, none⟩)) ∧ w' = w.alloc (.cells (pcCells 0 4294967295 (.slice none 0 0) 0 0) 78) := by
  go_enter Try.func23, Try.ntmps23
  go_wp2_with fail
  go_ret
  exact ⟨rfl, rfl⟩
end
end Go.Proofs.Ytdnkoeafnnohnaa

/-
  The program's coder codes a bit with a probability.
-/
namespace Go.Proofs.Ytdnkoeafnnohnaa
open Go.RowKit

def qset (g : Nat) (G : Option Nat) (b : Nat) : Nat → Prop := fun i => i = g ∨ G = some i ∨ i = b
/-- What is coded leaves: behind a definition, so that no walk looks into it. -/
def CodPost (w : World) (g : Nat) (G : Option Nat) (b pc : Nat) (ps : List Nat) (e' : En) (x : Ending) (w' : World) : Prop :=
  x = .returned (.tuple #[]) ∧ ∃ G', Pn w' g G' e' ∧ Nwr w G G' ∧ Row w' b ps pc ∧ Only (qset g G b) w w'

section
variable {w : World} {g b i p pc : Nat} {G : Option Nat} {c : Co} {r : Nat} {e : En} {ps : List Nat}

end
end Go.Proofs.Ytdnkoeafnnohnaa
