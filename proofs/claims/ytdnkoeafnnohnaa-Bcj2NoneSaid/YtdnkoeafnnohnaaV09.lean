/-
  PcGive, RdRev: put together.
-/
import Derived.Test.YtdnkoeafnnohnaaV06
import Derived.Test.YtdnkoeafnnohnaaV07
import Derived.Test.YtdnkoeafnnohnaaV08
import Derived.Deep.RegionLaw
import Derived.LoopN
import Derived.LoopTactic
set_option linter.unusedVariables false
set_option linter.unusedSimpArgs false
/-
  The program's coder in memory; what waited is given.
-/
namespace Go.Proofs.Ytdnkoeafnnohnaa
open Go.RowKit

def pcCells (lo r : Nat) (v : Value) (wt fu : Nat) : Array Value := #[.int .u64 (lo : Int), .int .u32 (r : Int), v, .int .u8 (wt : Int), .int .i64 (fu : Int)]

/-- Block g is the program's coder, c, its range r; G is its bytes' block, if there is one. -/
def Pw (w : World) (g : Nat) (G : Option Nat) (c : Co) (r : Nat) : Prop :=
  ∃ A m, Blk w g 78 (pcCells c.lo r (.slice A c.gs.length m) c.wt c.fu) ∧ w.ownsRow 0 5 1 (.slice A c.gs.length m) c.gs.length (bv c.gs) ∧ (Value.slice A c.gs.length m).ownBlock = G ∧ G ≠ some g

def pset (g : Nat) (G : Option Nat) : Nat → Prop := fun i => i = g ∨ G = some i
/-- G' is no old block but G -/
def Nwr (w : World) (G G' : Option Nat) : Prop := ∀ i, G' = some i → G = some i ∨ w.heap.size ≤ i
theorem Nwr.refl (w : World) (G : Option Nat) : Nwr w G G := fun _ h => .inl h
theorem Nwr.trans {w w' : World} {G G' G'' : Option Nat} (h : Nwr w G G') (k : Nwr w' G' G'') (hs : w.heap.size ≤ w'.heap.size) : Nwr w G G'' := fun i hi => by
  rcases k i hi with h1 | h1
  · exact h i h1
  · exact .inr (Nat.le_trans hs h1)
theorem pset_trans {w w1 w2 : World} {g : Nat} {G G1 : Option Nat} (h : Only (pset g G) w w1) (hn : Nwr w G G1) (k : Only (pset g G1) w1 w2) : Only (pset g G) w w2 :=
  h.trans' k fun i hi => by
    rcases hi with hi | hi
    · exact .inl (.inl hi)
    · rcases hn i hi with h1 | h1
      · exact .inl (.inr h1)
      · exact .inr h1

section
variable {w w' : World} {g : Nat} {G : Option Nat} {c : Co} {r : Nat}
theorem Pw.lt (h : Pw w g G c r) : g < w.heap.size := by obtain ⟨A, m, hB, _⟩ := h; exact hB.lt
theorem Pw.old (h : Pw w g G c r) {i : Nat} (hi : G = some i) : i < w.heap.size := by obtain ⟨A, m, hB, hO, hG, _⟩ := h; exact own_old hO (hG.trans hi)
theorem Pw.only {S : Nat → Prop} (h : Pw w g G c r) (hb : Only S w w') (hg : ¬ S g) (hG : ∀ i, G = some i → ¬ S i) : Pw w' g G c r := by
  obtain ⟨A, m, hB, hO, hE, hn⟩ := h
  exact ⟨A, m, hB.only hb hg, own_only' hO hb (fun i hi => hG i (hE.symm.trans hi)), hE, hn⟩
theorem Pw.drewN (h : Pw w g G c r) (n : Nat) : Pw (w.drewN n) g G c r := h
end

/-- What a call of the program's coder leaves. -/
def PwPost (w : World) (g : Nat) (G : Option Nat) (v : Value) (c : Co) (r : Nat) (e : Ending) (w' : World) : Prop :=
  e = .returned v ∧ ∃ G', Pw w' g G' c r ∧ Nwr w G G' ∧ Only (pset g G) w w'

/-- One byte more, and the cell that leads to the bytes is stored. -/
theorem pushed {w w1 w3 : World} {g : Nat} {G : Option Nat} {A : Option Addr} {gs : List UInt8} {m q' c' lo r wt fu : Nat} {x : UInt8} {u : Value} (hu : u = .int .u8 (x.toNat : Int))
    (hB : Blk w g 78 (pcCells lo r (.slice A gs.length m) wt fu)) (hO : w.ownsRow 0 5 1 (.slice A gs.length m) gs.length (bv gs)) (hG : (Value.slice A gs.length m).ownBlock = G) (hne : G ≠ some g)
    (h1 : Only (fun _ => False) w w1) (ho : w3.ownsRow 0 5 1 (.slice (some ⟨q', 0, none⟩) (gs.length + 1) c') (gs.length + 1) (bv gs ++ [u])) (hg : w1.grownBy w3 (Value.slice A gs.length m).ownBlock)
    (hq : (Value.slice A gs.length m).ownBlock = some q' ∨ q' = w1.heap.size) :
    Pw (w3.setCell ⟨g, 2, none⟩ (.slice (some ⟨q', 0, none⟩) (gs.length + 1) c')) g (some q') ⟨gs ++ [x], wt, fu, lo⟩ r ∧ Nwr w G (some q') ∧ Only (pset g G) w (w3.setCell ⟨g, 2, none⟩ (.slice (some ⟨q', 0, none⟩) (gs.length + 1) c')) := by
  subst hu
  have hgl := hB.lt
  have hs1 := h1.size
  have hqg : q' ≠ g := by
    rcases hq with h | h
    · intro e; subst e; exact hne (hG.symm.trans h)
    · omega
  have hB1 : Blk w1 g 78 _ := hB.only h1 (fun h => h)
  have hB3 : Blk w3 g 78 _ := hB1.grown hg (by intro e; exact hne (hG.symm.trans e.symm))
  have h3 : Only (pset g G) w w3 := by
    refine (h1.mono (S' := pset g G) (fun _ h => h.elim)).trans ⟨hg.os, hg.tape, hg.output, hg.size, fun i hi hn => hg.block i hi fun e => hn (.inr (hG.symm.trans e.symm))⟩
  refine ⟨⟨some ⟨q', 0, none⟩, c', ?_, ?_, rfl, fun e => hqg (by injection e)⟩, ?_, h3.setCell (p := ⟨g, 2, none⟩) (.inl (.inl rfl)) _⟩
  · have := hB3.put 2 (.slice (some ⟨q', 0, none⟩) (gs.length + 1) c')
    show Blk _ g _ (pcCells lo r (.slice (some ⟨q', 0, none⟩) (gs ++ [x]).length c') wt fu)
    rw [List.length_append]
    exact this
  · show World.ownsRow _ 0 5 1 (.slice (some ⟨q', 0, none⟩) (gs ++ [x]).length c') (gs ++ [x]).length (bv (gs ++ [x]))
    rw [List.length_append, bv_append]
    exact own_only (S := fun i => i = g) ho ((Only.refl (fun i => i = g) w3).setCell (p := ⟨g, 2, none⟩) (.inl rfl) _) hqg
  · intro i hi
    injection hi with hi
    subst hi
    rcases hq with h | h
    · exact .inl (hG.symm.trans h)
    · exact .inr (by omega)

theorem u8_more (wt k : Nat) (h : wt + k < 512) : IntKind.u8.wrap ((wt : Int) + (k : Int)) = ((UInt8.ofNat (wt + k)).toNat : Int) := by
  simp [IntKind.wrap, IntKind.bits, IntKind.signed]

theorem rep_snoc (base : List UInt8) (j : Nat) (y : UInt8) : base ++ List.replicate j y ++ [y] = base ++ List.replicate (j + 1) y := by
  rw [List.append_assoc, List.replicate_succ']

/-- behind the first byte: those that waited with it -/
def WaitRel (w : World) (g : Nat) (G : Option Nat) (base : List UInt8) (y : UInt8) (wt fu lo r : Nat) (i : Value) (wr : World) : Prop :=
  ∃ j G', j ≤ fu ∧ i = .int .i64 (j : Int) ∧ Pw wr g G' ⟨base ++ List.replicate j y, wt, fu, lo⟩ r ∧ Nwr w G G' ∧ Only (pset g G) w wr

set_option maxHeartbeats 4000000 in
theorem giveWaiting_any {w : World} {g : Nat} {G : Option Nat} {c : Co} {r : Nat} (b : Bool) (h : Pw w g G c r) (hw : c.wt < 256) (hlen : c.gs.length + c.fu ≤ 1000000000) :
    Calls Try.prog 54 #[.pointer (some ⟨g, 0, none⟩), .bool b] w (PwPost w g G (.tuple #[]) ⟨c.gave (if b = true then 1 else 0), c.wt, 0, c.lo⟩ r) := by
  obtain ⟨i, hi, hz0, hz1, hz2⟩ := info_parts info_u8
  obtain ⟨gs, wt, fu, lo⟩ := c
  obtain ⟨A, m, hB, hO, hG, hne⟩ := h
  simp only [] at hB hO hG hw hlen
  obtain ⟨k, hk⟩ : ∃ k, k = if b = true then 1 else 0 := ⟨_, rfl⟩
  have hk1 : k ≤ 1 := by cases b <;> simp at hk <;> omega
  rw [← hk]
  have c2 : w.cell? ⟨g, 2, none⟩ = some (.slice A gs.length m) := hB.cell 2
  have c3 : w.cell? ⟨g, 3, none⟩ = some (.int .u8 (wt : Int)) := hB.cell 3
  have e1 := u8_more wt k (by omega)
  obtain ⟨x, hx⟩ : ∃ x, x = UInt8.ofNat (wt + k) := ⟨_, rfl⟩
  rw [← hx] at e1
  have c2a : (w.alloc (.cells #[.int .u8 (x.toNat : Int)] 5)).cell? ⟨g, 2, none⟩ = some (.slice A gs.length m) := (hB.alloc _).cell 2
  have HNW := Lib.hid (fun (n : Nat) (u : Value) => (sl_one (w.drewN n) 5 u).news)
  have HOA := Lib.hid (fun (n : Nat) (o : Obj) => World.ownsRow.alloc (show (w.drewN n).ownsRow 0 5 1 (.slice A gs.length m) gs.length (bv gs) from hO) o)
  have HX := Lib.hid hx
  have HK := Lib.hid hk
  have HB := Lib.hid hB
  have HO := Lib.hid hO
  have HG := Lib.hid hG
  have HNE := Lib.hid hne
  have HK1 := Lib.hid hk1
  clear hx hB hO hG hne hk1 hk
  have hn3 : ∀ n o, ∀ q' c' (w3 : World), w3.ownsRow 0 5 1 (.slice (some ⟨q', 0, none⟩) (gs.length + 1) c') (gs.length + 1) (bv gs ++ [.int .u8 (x.toNat : Int)]) → ((w.drewN n).alloc o).grownBy w3 (Value.slice A gs.length m).ownBlock → ((Value.slice A gs.length m).ownBlock = some q' ∨ q' = ((w.drewN n).alloc o).heap.size) →
      w3.cell? ⟨g, 2, none⟩ = some (.slice A gs.length m) ∧ w3.frozen? ⟨g, 2, none⟩ = false ∧ Pw (w3.setCell ⟨g, 2, none⟩ (.slice (some ⟨q', 0, none⟩) (gs.length + 1) c')) g (some q') ⟨gs ++ [x], wt, fu, lo⟩ r ∧ Nwr w G (some q') ∧ Only (pset g G) w (w3.setCell ⟨g, 2, none⟩ (.slice (some ⟨q', 0, none⟩) (gs.length + 1) c')) := by
    intro n o q' c' w3 ho hg hq
    have h1 : Only (fun _ => False) w ((w.drewN n).alloc o) := ((Only.refl _ w).drewN n).alloc o
    refine ⟨?_, ?_, pushed rfl HB.out HO.out HG.out HNE.out h1 ho hg hq⟩
    · have hB1 : Blk _ g 78 _ := HB.out.only h1 (fun h => h)
      have hB3 : Blk w3 g 78 _ := hB1.grown hg (by intro e; exact HNE.out (HG.out.symm.trans e.symm))
      exact hB3.cell 2
    · have hB1 : Blk _ g 78 _ := HB.out.only h1 (fun h => h)
      have hB3 : Blk w3 g 78 _ := hB1.grown hg (by intro e; exact HNE.out (HG.out.symm.trans e.symm))
      exact hB3.free 2
  have HN3 := Lib.hid hn3
  have HL := Lib.hid hlen
  clear hn3 hlen hw
  cases b
  · have hk0 : k = 0 := HK.out
    subst hk0
    have e1' : IntKind.u8.wrap (wt : Int) = (x.toNat : Int) := by simpa using e1
    clear e1
    go_enter Try.func54, Try.ntmps54
    go_wp2_with fail
    go_region_law (first | (refine step_append_lies _ rfl (.tmp 10) (.tmp 17) 22 rfl 0 5 i _ 1 1 Try.underlying22 hi hz0 hz1 hz2 rfl (by omega) _ gs.length (bv gs) rfl (HOA.out 1 _) _ 1 1 [.int .u8 (x.toNat : Int)] rfl rfl (HNW.out 1 _) (one_one _ _) (by omega) (by have := HL.out; unfold maxLen; omega) (by have := HL.out; omega) (Nat.zero_le _) _ rfl ?_; intro q' c' w3 ho hg hq hql3; obtain ⟨j2, z2, hP⟩ := HN3.out 1 _ q' c' w3 ho hg hq; have HP := Lib.hid hP; clear ho hg hq hP))
    all_goals
      clear c2 c3 c2a HNW HOA HN3 HO HB j2 z2
      obtain ⟨hP1, hN1, hO1⟩ := HP.out
      clear HP
      generalize w3.setCell ⟨g, 2, none⟩ (.slice (some ⟨q', 0, none⟩) (gs.length + 1) c') = w4 at *
      have c4 : w4.cell? ⟨g, 4, none⟩ = some (.int .i64 (fu : Int)) := by obtain ⟨A1, m1, hB1, _⟩ := hP1; exact hB1.cell 4
      have HP1 := Lib.hid hP1
      have HN1 := Lib.hid hN1
      have HO1 := Lib.hid hO1
      clear hP1 hN1 hO1 HG HNE
      go_wp2_with fail
      go_loopw [25] (fun i wr => WaitRel w g G (gs ++ [x]) 255 wt fu lo r i wr) (fun i _ => fu - (intOf i).toNat)
      case atStart => exact ⟨0, some q', Nat.zero_le _, rfl, by rw [List.replicate_zero, List.append_nil]; exact HP1.out, HN1.out, HO1.out⟩
      case round =>
        clear HP1 HN1 HO1 c4
        obtain ⟨j, G', hj, rfl, hP, hN, hO⟩ := hrel
        obtain ⟨B, hBB⟩ : ∃ B, B = gs ++ [x] ++ List.replicate j 255 := ⟨_, rfl⟩
        have hBl : B.length = gs.length + 1 + j := by rw [hBB]; simp; omega
        have HBB := Lib.hid hBB
        rw [← hBB] at hP
        have HP := Lib.hid hP
        obtain ⟨A', m', hB', hO', hG', hne'⟩ := hP
        simp only [] at hB' hO' hG'
        have hnx : B ++ [255] = gs ++ [x] ++ List.replicate (j + 1) 255 := by rw [hBB, rep_snoc]
        have HNX := Lib.hid hnx
        have HBL := Lib.hid hBl
        have c2 : wr.cell? ⟨g, 2, none⟩ = some (.slice A' B.length m') := hB'.cell 2
        have HB' := Lib.hid hB'
        have HO' := Lib.hid hO'
        have HG' := Lib.hid hG'
        have HNE' := Lib.hid hne'
        have HN := Lib.hid hN
        have HO := Lib.hid hO
        have HNW := Lib.hid (sl_one wr 5 (.int .u8 255)).news
        clear hBB hBl hnx hB' hO' hG' hne' hN hO
        by_cases hlt : j < fu
        · have hlt' : (j : Int) < (fu : Int) := by omega
          have ej : IntKind.i64.wrap ((j : Int) + 1) = (j : Int) + 1 := IntWalk.i64_in _ (by have := HL.out; omega)
          go_wp2_with (at_builtin; refine wpList_append_lies _ rfl (.tmp 31) (.tmp 34) 22 rfl 0 5 i _ 1 1 Try.underlying22 hi hz0 hz1 hz2 rfl (by omega) _ B.length (bv B) rfl (HO'.out.alloc _) _ 1 1 [.int .u8 255] rfl rfl HNW.out (one_one _ _) (by omega) (by have := HL.out; have := HBL.out; unfold maxLen; omega) (by have := HL.out; have := HBL.out; omega) (Nat.zero_le _) _ rfl ?_)
          intro q2 c2' w3 ho hg hq hql3
          have h1 : Only (fun _ => False) wr (wr.alloc (.cells #[.int .u8 255] 5)) := (Only.refl _ wr).alloc _
          have hB1 : Blk _ g 78 _ := HB'.out.only h1 (fun h => h)
          have hB3 : Blk w3 g 78 _ := hB1.grown hg (by intro e; exact HNE'.out (HG'.out.symm.trans e.symm))
          have j2 : w3.cell? ⟨g, 2, none⟩ = some (.slice A' B.length m') := hB3.cell 2
          have z2 : w3.frozen? ⟨g, 2, none⟩ = false := hB3.free 2
          obtain ⟨hP2, hN2, hO2⟩ := pushed (x := 255) (by rfl) HB'.out HO'.out HG'.out HNE'.out h1 ho hg (hq.imp id (fun h => by rw [h]; simp))
          have HP2 := Lib.hid hP2
          have HN2 := Lib.hid (HN.out.trans hN2 HO.out.size)
          have HO2 := Lib.hid (pset_trans HO.out HN.out hO2)
          clear ho hg hq h1 hB1 hB3 hP2 hN2 hO2 HN HO HNW HB' HO' HG' HNE' HP c2
          go_wp2_with fail
          go_roundw
          case rel =>
            have hj9 : j < 1000000000 := by have := HL.out; omega
            exact ⟨j + 1, some q2, by omega, by go_num, by rw [← HNX.out]; exact HP2.out, HN2.out, HO2.out⟩
          case measure =>
            have hj9 : j < 1000000000 := by have := HL.out; omega
            simp [intOf]; omega
        · obtain rfl : j = fu := by omega
          have z4 : wr.frozen? ⟨g, 4, none⟩ = false := HB'.out.free 4
          have c4 : wr.cell? ⟨g, 4, none⟩ = some (.int .i64 (j : Int)) := HB'.out.cell 4
          have hirr : ¬ (j : Int) < (j : Int) := by omega
          clear hlt
          go_wp2_with fail
          first | go_end0 | refine bodyPost_ret (results_none rfl _ _ _) rfl ?_
          have e : (Co.gave ⟨gs, wt, j, lo⟩ 0) = B := by
            rw [HBB.out, HX.out, List.append_assoc]
            rfl
          rw [e]
          refine ⟨rfl, G', ⟨A', m', HB'.out.put 4 (.int .i64 0), ?_, HG'.out, HNE'.out⟩, HN.out, HO.out.setCell (p := ⟨g, 4, none⟩) (.inl (.inl rfl)) _⟩
          exact own_only' (S := fun i => i = g) HO'.out ((Only.refl (fun i => i = g) wr).setCell (p := ⟨g, 4, none⟩) (.inl rfl) _) (fun i hi e => HNE'.out (HG'.out.symm.trans (e ▸ hi)))
  · have hk0 : k = 1 := HK.out
    subst hk0
    have e1' : IntKind.u8.wrap ((wt : Int) + 1) = (x.toNat : Int) := by simpa using e1
    clear e1
    go_enter Try.func54, Try.ntmps54
    go_wp2_with fail
    go_region_law (first | (refine step_append_lies _ rfl (.tmp 10) (.tmp 17) 22 rfl 0 5 i _ 1 1 Try.underlying22 hi hz0 hz1 hz2 rfl (by omega) _ gs.length (bv gs) rfl (HOA.out 1 _) _ 1 1 [.int .u8 (x.toNat : Int)] rfl rfl (HNW.out 1 _) (one_one _ _) (by omega) (by have := HL.out; unfold maxLen; omega) (by have := HL.out; omega) (Nat.zero_le _) _ rfl ?_; intro q' c' w3 ho hg hq hql3; obtain ⟨j2, z2, hP⟩ := HN3.out 1 _ q' c' w3 ho hg hq; have HP := Lib.hid hP; clear ho hg hq hP))
    all_goals
      clear c2 c3 c2a HNW HOA HN3 HO HB j2 z2
      obtain ⟨hP1, hN1, hO1⟩ := HP.out
      clear HP
      generalize w3.setCell ⟨g, 2, none⟩ (.slice (some ⟨q', 0, none⟩) (gs.length + 1) c') = w4 at *
      have c4 : w4.cell? ⟨g, 4, none⟩ = some (.int .i64 (fu : Int)) := by obtain ⟨A1, m1, hB1, _⟩ := hP1; exact hB1.cell 4
      have HP1 := Lib.hid hP1
      have HN1 := Lib.hid hN1
      have HO1 := Lib.hid hO1
      clear hP1 hN1 hO1 HG HNE
      go_wp2_with fail
      go_loopw [25] (fun i wr => WaitRel w g G (gs ++ [x]) 0 wt fu lo r i wr) (fun i _ => fu - (intOf i).toNat)
      case atStart => exact ⟨0, some q', Nat.zero_le _, rfl, by rw [List.replicate_zero, List.append_nil]; exact HP1.out, HN1.out, HO1.out⟩
      case round =>
        clear HP1 HN1 HO1 c4
        obtain ⟨j, G', hj, rfl, hP, hN, hO⟩ := hrel
        obtain ⟨B, hBB⟩ : ∃ B, B = gs ++ [x] ++ List.replicate j 0 := ⟨_, rfl⟩
        have hBl : B.length = gs.length + 1 + j := by rw [hBB]; simp; omega
        have HBB := Lib.hid hBB
        rw [← hBB] at hP
        have HP := Lib.hid hP
        obtain ⟨A', m', hB', hO', hG', hne'⟩ := hP
        simp only [] at hB' hO' hG'
        have hnx : B ++ [0] = gs ++ [x] ++ List.replicate (j + 1) 0 := by rw [hBB, rep_snoc]
        have HNX := Lib.hid hnx
        have HBL := Lib.hid hBl
        have c2 : wr.cell? ⟨g, 2, none⟩ = some (.slice A' B.length m') := hB'.cell 2
        have HB' := Lib.hid hB'
        have HO' := Lib.hid hO'
        have HG' := Lib.hid hG'
        have HNE' := Lib.hid hne'
        have HN := Lib.hid hN
        have HO := Lib.hid hO
        have HNW := Lib.hid (sl_one wr 5 (.int .u8 0)).news
        clear hBB hBl hnx hB' hO' hG' hne' hN hO
        by_cases hlt : j < fu
        · have hlt' : (j : Int) < (fu : Int) := by omega
          have ej : IntKind.i64.wrap ((j : Int) + 1) = (j : Int) + 1 := IntWalk.i64_in _ (by have := HL.out; omega)
          go_wp2_with (at_builtin; refine wpList_append_lies _ rfl (.tmp 31) (.tmp 34) 22 rfl 0 5 i _ 1 1 Try.underlying22 hi hz0 hz1 hz2 rfl (by omega) _ B.length (bv B) rfl (HO'.out.alloc _) _ 1 1 [.int .u8 0] rfl rfl HNW.out (one_one _ _) (by omega) (by have := HL.out; have := HBL.out; unfold maxLen; omega) (by have := HL.out; have := HBL.out; omega) (Nat.zero_le _) _ rfl ?_)
          intro q2 c2' w3 ho hg hq hql3
          have h1 : Only (fun _ => False) wr (wr.alloc (.cells #[.int .u8 0] 5)) := (Only.refl _ wr).alloc _
          have hB1 : Blk _ g 78 _ := HB'.out.only h1 (fun h => h)
          have hB3 : Blk w3 g 78 _ := hB1.grown hg (by intro e; exact HNE'.out (HG'.out.symm.trans e.symm))
          have j2 : w3.cell? ⟨g, 2, none⟩ = some (.slice A' B.length m') := hB3.cell 2
          have z2 : w3.frozen? ⟨g, 2, none⟩ = false := hB3.free 2
          obtain ⟨hP2, hN2, hO2⟩ := pushed (x := 0) (by rfl) HB'.out HO'.out HG'.out HNE'.out h1 ho hg (hq.imp id (fun h => by rw [h]; simp))
          have HP2 := Lib.hid hP2
          have HN2 := Lib.hid (HN.out.trans hN2 HO.out.size)
          have HO2 := Lib.hid (pset_trans HO.out HN.out hO2)
          clear ho hg hq h1 hB1 hB3 hP2 hN2 hO2 HN HO HNW HB' HO' HG' HNE' HP c2
          go_wp2_with fail
          go_roundw
          case rel =>
            have hj9 : j < 1000000000 := by have := HL.out; omega
            exact ⟨j + 1, some q2, by omega, by go_num, by rw [← HNX.out]; exact HP2.out, HN2.out, HO2.out⟩
          case measure =>
            have hj9 : j < 1000000000 := by have := HL.out; omega
            simp [intOf]; omega
        · obtain rfl : j = fu := by omega
          have z4 : wr.frozen? ⟨g, 4, none⟩ = false := HB'.out.free 4
          have c4 : wr.cell? ⟨g, 4, none⟩ = some (.int .i64 (j : Int)) := HB'.out.cell 4
          have hirr : ¬ (j : Int) < (j : Int) := by omega
          clear hlt
          go_wp2_with fail
          first | go_end0 | refine bodyPost_ret (results_none rfl _ _ _) rfl ?_
          have e : (Co.gave ⟨gs, wt, j, lo⟩ 1) = B := by
            rw [HBB.out, HX.out, List.append_assoc]
            rfl
          rw [e]
          refine ⟨rfl, G', ⟨A', m', HB'.out.put 4 (.int .i64 0), ?_, HG'.out, HNE'.out⟩, HN.out, HO.out.setCell (p := ⟨g, 4, none⟩) (.inl (.inl rfl)) _⟩
          exact own_only' (S := fun i => i = g) HO'.out ((Only.refl (fun i => i = g) wr).setCell (p := ⟨g, 4, none⟩) (.inl rfl) _) (fun i hi e => HNE'.out (HG'.out.symm.trans (e ▸ hi)))
end Go.Proofs.Ytdnkoeafnnohnaa

/-
  What the decoder's bits stand on.
-/
namespace Go.Proofs.Ytdnkoeafnnohnaa
open Go.RowKit
theorem ofInt_u64' (a : Nat) (h : a < 18446744073709551616) : (BitVec.ofInt 64 (a : Int)).toNat = a := by simp; omega
end Go.Proofs.Ytdnkoeafnnohnaa
