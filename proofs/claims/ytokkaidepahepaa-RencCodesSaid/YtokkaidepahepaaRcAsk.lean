/-
  The reference's coder is asked.
-/
import Derived.Test.YtokkaidepahepaaRcRefs
import Derived.Test.YtokkaidepahepaaHeld
namespace Go.Proofs.Ytokkaidepahepaa
open Go.RowKit

/-- What a question leaves. -/
def AskEPost (w : World) (g q b pc : Nat) (ps' : List Nat) (e' : En) (e : Ending) (w' : World) : Prop :=
  e = .returned (.tuple #[]) ∧ ∃ q', Rn w' g q' e' ∧ (q' = q ∨ w.heap.size ≤ q') ∧ Row w' b ps' pc ∧ Only (three g q b) w w'

/-- the bit that the text reckons -/
theorem bit_int (V i : Nat) : ((V : Int) / 2 ^ i).tmod 2 = ((bitOf V i : Nat) : Int) := by
  unfold bitOf
  obtain ⟨y, hy⟩ : ∃ y, y = V / 2 ^ i := ⟨_, rfl⟩
  have h : (V : Int) / ((2 ^ i : Nat) : Int) = (y : Int) := by rw [hy]; exact (Int.natCast_ediv V (2 ^ i)).symm
  rw [cast_pow2, h, ← hy, Int.tmod_eq_emod_of_nonneg (by omega)]
  omega
theorem bit_zero_int (V : Nat) : (V : Int).tmod 2 = ((V % 2 : Nat) : Int) := by
  rw [Int.tmod_eq_emod_of_nonneg (by omega)]
  omega

theorem not_two {g q x : Nat} (h : x ≠ g) (k : x ≠ q) : ¬ two g q x := by
  intro e
  rcases e with e | e
  · exact h e
  · exact k e
theorem far_cell {w : World} {B b o i : Nat} {u : Value} (h : B ≠ b) : (w.setCell ⟨b, i, none⟩ u).cell? ⟨B, o, none⟩ = w.cell? ⟨B, o, none⟩ :=
  World.cell?_of_block (Below.heap_setCell w ⟨b, i, none⟩ u B h)

section
variable {w : World} {g q b pc : Nat} {ps : List Nat} {e : En}

set_option maxHeartbeats 4000000 in
theorem rask5_bit {a V : Nat} {n : Int} (h : Rn w g q e) (he : EnOk e) (hR : Row w b ps pc) (hps : PsOk ps) (hbg : b ≠ g) (hbq : b ≠ q) {L : Nat} (hL : ps.length = L) (hl : L = 600) (hV : V < 4294967296) (hlen : e.l ≤ 999999000) (ha : a < 600) :
    Calls Try.prog 14 #[.pointer (some ⟨g, 0, none⟩), .slice (some ⟨b, 0, none⟩) L pc, .agg #[.int .i64 0, .int .i64 (a : Int), .int .i64 n, .int .u32 (V : Int)]] w
      (AskEPost w g q b pc (ps.set a (upOf (ps.getD a 0) (V % 2))) (e.bit (ps.getD a 0) (V % 2))) := by
  have hlt := h.lt
  have hbl := hR.lt
  have hnew := (Only.refl (fun _ => False) w).alloc (.cells #[.int .i64 0, .int .i64 (a : Int), .int .i64 n, .int .u32 (V : Int)] 34)
  have HX0 := Lib.hid (show (w.alloc (.cells #[.int .i64 0, .int .i64 (a : Int), .int .i64 n, .int .u32 (V : Int)] 34)).cell? ⟨w.heap.size, 0, none⟩ = some (.int .i64 0) from (Blk.fresh w _ _).cell 0)
  have HX1 := Lib.hid (show (w.alloc (.cells #[.int .i64 0, .int .i64 (a : Int), .int .i64 n, .int .u32 (V : Int)] 34)).cell? ⟨w.heap.size, 1, none⟩ = some (.int .i64 (a : Int)) from (Blk.fresh w _ _).cell 1)
  have HX2 := Lib.hid (show (w.alloc (.cells #[.int .i64 0, .int .i64 (a : Int), .int .i64 n, .int .u32 (V : Int)] 34)).cell? ⟨w.heap.size, 2, none⟩ = some (.int .i64 n) from (Blk.fresh w _ _).cell 2)
  have HX3 := Lib.hid (show (w.alloc (.cells #[.int .i64 0, .int .i64 (a : Int), .int .i64 n, .int .u32 (V : Int)] 34)).cell? ⟨w.heap.size, 3, none⟩ = some (.int .u32 (V : Int)) from (Blk.fresh w _ _).cell 3)
  have HSZ := Lib.hid (show w.heap.size < (w.alloc (.cells #[.int .i64 0, .int .i64 (a : Int), .int .i64 n, .int .u32 (V : Int)] 34)).heap.size from (Blk.fresh w _ _).lt)
  have HH := Lib.hid (h.only hnew (fun h => h) (fun h => h))
  have HR := Lib.hid (hR.only hnew (fun h => h))
  have HO := Lib.hid hnew
  have HPS := Lib.hid hps
  have HE := Lib.hid he
  clear h hR hnew hps he
  go_enter Try.func14, Try.ntmps14
  go_wp2_with fail
  have hx1 := HX1.out
  have hx2 := HX2.out
  have hx3 := HX3.out
  clear HX0 HX1 HX2 HX3
  generalize (w.alloc (.cells #[.int .i64 0, .int .i64 (a : Int), .int .i64 n, .int .u32 (V : Int)] 34)) = w1 at *
  generalize hBB : w.heap.size = B at *
  have HBB := Lib.hid hBB
  clear hBB
  have hpa := getD_ok HPS.out (i := a) (by omega)
  have cz := HR.out.cell (i := a) (by omega)
  have eb := bit_zero_int V
  have e1 : IntKind.i64.wrap ((V % 2 : Nat) : Int) = ((V % 2 : Nat) : Int) := IntWalk.i64_in _ (by omega)
  have KA := Lib.hid (rbit5_any (b := V % 2) (HH.out.drewN 1) HE.out hpa (by omega) (by omega))
  have ha0 : (0 : Int) ≤ (a : Int) := by omega
  have ha1 : (a : Int) < (L : Int) := by omega
  generalize ps.getD a 0 = p at *
  obtain ⟨u, hu⟩ : ∃ u, u = V % 2 := ⟨_, rfl⟩
  rw [← hu] at eb e1 KA
  have HU := Lib.hid hu
  have HV := Lib.hid hV
  clear hu hpa hV hlen ha hl hL
  refine wp_region_held_drew (S := fun w' => w'.cell? ⟨B, 1, none⟩ = some (.int .i64 (a : Int)) ∧ w'.cell? ⟨B, 3, none⟩ = some (.int .u32 (V : Int))) (by kernel_rfl) ⟨hx1, hx3⟩ (fun hHeld => ?_)
  refine wpAnyH_take (i := 0) (v := ?_) rfl (by kernel_rfl) (by kernel_rfl) (by kernel_rfl) (fun _ _ _ h => h) (Or.inl ⟨by rfl, ?_⟩) (by assumption) ?_
  rotate_left
  · (intro w hSw; (try dsimp only at hSw); go_simp; try with_reducible rfl)
  try simp only [Act.put, List.setIfInBounds_toArray, List.set_cons_zero, List.set_cons_succ, List.getElem_toArray, List.getElem_cons_zero, List.getElem_cons_succ]
  refine wpAnyH_take (i := 1) (v := ?_) rfl (by kernel_rfl) (by kernel_rfl) (by kernel_rfl) (fun _ _ _ h => h) (Or.inl ⟨by rfl, ?_⟩) (by assumption) ?_
  rotate_left
  · (intro w hSw; (try dsimp only at hSw); go_simp; try with_reducible rfl)
  try simp only [Act.put, List.setIfInBounds_toArray, List.set_cons_zero, List.set_cons_succ, List.getElem_toArray, List.getElem_cons_zero, List.getElem_cons_succ]
  refine wpAnyH_take (i := 2) (v := ?_) rfl (by kernel_rfl) (by kernel_rfl) (by kernel_rfl) (fun _ _ _ h => h) (Or.inl ⟨by rfl, ?_⟩) (by assumption) ?_
  rotate_left
  · (intro w hSw; (try dsimp only at hSw); go_simp; try with_reducible rfl)
  try simp only [Act.put, List.setIfInBounds_toArray, List.set_cons_zero, List.set_cons_succ, List.getElem_toArray, List.getElem_cons_zero, List.getElem_cons_succ]
  refine wpAnyH_take (i := 3) (v := ?_) rfl (by kernel_rfl) (by kernel_rfl) (by kernel_rfl) (fun _ _ _ h => h) (Or.inl ⟨by rfl, ?_⟩) (by assumption) ?_
  rotate_left
  · (intro w hSw; (try dsimp only at hSw); go_simp; try with_reducible rfl)
  try simp only [Act.put, List.setIfInBounds_toArray, List.set_cons_zero, List.set_cons_succ, List.getElem_toArray, List.getElem_cons_zero, List.getElem_cons_succ]
  refine wpAnyH_take (i := 4) (v := ?_) rfl (by kernel_rfl) (by kernel_rfl) (by kernel_rfl) (fun _ _ _ h => h) (Or.inl ⟨by rfl, ?_⟩) (by assumption) ?_
  rotate_left
  · (intro w hSw; (try dsimp only at hSw); go_simp; try with_reducible rfl)
  try simp only [Act.put, List.setIfInBounds_toArray, List.set_cons_zero, List.set_cons_succ, List.getElem_toArray, List.getElem_cons_zero, List.getElem_cons_succ]
  refine wpAnyH_take (i := 5) (v := ?_) rfl (by kernel_rfl) (by kernel_rfl) (by kernel_rfl) (fun _ _ _ h => h) (Or.inl ⟨by rfl, ?_⟩) (by assumption) ?_
  rotate_left
  · (intro w hSw; (try dsimp only at hSw); go_simp; try with_reducible rfl)
  try simp only [Act.put, List.setIfInBounds_toArray, List.set_cons_zero, List.set_cons_succ, List.getElem_toArray, List.getElem_cons_zero, List.getElem_cons_succ]
  refine wpAnyH_take (i := 6) (v := ?_) rfl (by kernel_rfl) (by kernel_rfl) (by kernel_rfl) (fun _ _ _ h => h) (Or.inl ⟨by rfl, ?_⟩) (by assumption) ?_
  rotate_left
  · (intro w hSw; (try dsimp only at hSw); go_simp; try with_reducible rfl)
  try simp only [Act.put, List.setIfInBounds_toArray, List.set_cons_zero, List.set_cons_succ, List.getElem_toArray, List.getElem_cons_zero, List.getElem_cons_succ]
  refine wpAnyH_take (i := 7) (v := ?_) rfl (by kernel_rfl) (by kernel_rfl) (by kernel_rfl) (fun _ _ _ h => h) (Or.inl ⟨by rfl, ?_⟩) (by assumption) ?_
  rotate_left
  · (intro w hSw; (try dsimp only at hSw); go_simp; try with_reducible rfl)
  try simp only [Act.put, List.setIfInBounds_toArray, List.set_cons_zero, List.set_cons_succ, List.getElem_toArray, List.getElem_cons_zero, List.getElem_cons_succ]
  refine wpAnyH_take (i := 9) (v := ?_) rfl (by kernel_rfl) (by kernel_rfl) (by kernel_rfl) (fun _ _ _ h => h) (Or.inl ⟨by rfl, ?_⟩) (by assumption) ?_
  rotate_left
  · (intro w hSw; (try dsimp only at hSw); go_simp; try with_reducible rfl)
  try simp only [Act.put, List.setIfInBounds_toArray, List.set_cons_zero, List.set_cons_succ, List.getElem_toArray, List.getElem_cons_zero, List.getElem_cons_succ]
  refine wpAnyH_take (i := 10) (v := ?_) rfl (by kernel_rfl) (by kernel_rfl) (by kernel_rfl) (fun _ _ _ h => h) (Or.inl ⟨by rfl, ?_⟩) (by assumption) ?_
  rotate_left
  · (intro w hSw; (try dsimp only at hSw); go_simp; try with_reducible rfl)
  try simp only [Act.put, List.setIfInBounds_toArray, List.set_cons_zero, List.set_cons_succ, List.getElem_toArray, List.getElem_cons_zero, List.getElem_cons_succ]
  refine wpAnyH_take (i := 11) (v := ?_) rfl (by kernel_rfl) (by kernel_rfl) (by kernel_rfl) (fun _ _ _ h => h) (Or.inl ⟨by rfl, ?_⟩) (by assumption) ?_
  rotate_left
  · (intro w hSw; (try dsimp only at hSw); go_simp; try with_reducible rfl)
  try simp only [Act.put, List.setIfInBounds_toArray, List.set_cons_zero, List.set_cons_succ, List.getElem_toArray, List.getElem_cons_zero, List.getElem_cons_succ]
  refine wpAnyH_take (i := 12) (v := ?_) rfl (by kernel_rfl) (by kernel_rfl) (by kernel_rfl) (fun _ _ _ h => h) (Or.inl ⟨by rfl, ?_⟩) (by assumption) ?_
  rotate_left
  · (intro w hSw; (try dsimp only at hSw); go_simp; try with_reducible rfl)
  try simp only [Act.put, List.setIfInBounds_toArray, List.set_cons_zero, List.set_cons_succ, List.getElem_toArray, List.getElem_cons_zero, List.getElem_cons_succ]
  refine wpAnyH_ready (rs := [8]) (by kernel_rfl) (by simp) (AllReadyH.cons (i := 8) rfl (fun K hK => ?_) AllReadyH.nil)
  try simp only [List.getElem_toArray, List.getElem_cons_zero, List.getElem_cons_succ]
  go_simp
  refine hK.out _ _ ⟨hx1, hx3⟩ (fun hHeld => ?_)
  clear hK K
  try simp only [Act.put, List.setIfInBounds_toArray, List.set_cons_zero, List.set_cons_succ]
  refine wpAnyH_ready (rs := [13]) (by kernel_rfl) (by simp) (AllReadyH.cons (i := 13) rfl (fun K hK => ?_) AllReadyH.nil)
  try simp only [List.getElem_toArray, List.getElem_cons_zero, List.getElem_cons_succ]
  go_simp
  refine KA.out.mono ?_
  rintro e' w2 ⟨rfl, q', hN, hq, hO2⟩
  have hnb : ¬ two g q b := not_two hbg hbq
  have hnB : ¬ two g q B := not_two (by omega) (by omega)
  have hR2 := (HR.out.drewN 1).only hO2 hnb
  have k1 : w2.cell? ⟨b, a, none⟩ = some (.int .u16 (p : Int)) := (hO2.cell (p := ⟨b, a, none⟩) (show b < (w1.drewN 1).heap.size from HR.out.lt) hnb).trans cz
  have k2 : w2.frozen? ⟨b, a, none⟩ = false := hR2.free a
  have y1 := (hO2.cell (p := ⟨B, 1, none⟩) (show B < (w1.drewN 1).heap.size from HSZ.out) hnB).trans hx1
  have y3 := (hO2.cell (p := ⟨B, 3, none⟩) (show B < (w1.drewN 1).heap.size from HSZ.out) hnB).trans hx3
  have hBb : B ≠ b := by omega
  have HN := Lib.hid hN
  have HQ := Lib.hid hq
  have HR2 := Lib.hid hR2
  have HO2 := Lib.hid hO2
  clear hN hq hR2 hO2
  refine hK.out _ _ ⟨y1, y3⟩ (fun hHeld => ?_)
  clear hK K
  try simp only [Act.put, List.setIfInBounds_toArray, List.set_cons_zero, List.set_cons_succ]
  refine wpAnyH_take (i := 14) (v := ?_) rfl (by kernel_rfl) (by kernel_rfl) (by kernel_rfl) (fun _ _ _ h => h) (Or.inl ⟨by rfl, ?_⟩) (by assumption) ?_
  rotate_left
  · (intro w hSw; (try dsimp only at hSw); go_simp; try with_reducible rfl)
  try simp only [Act.put, List.setIfInBounds_toArray, List.set_cons_zero, List.set_cons_succ, List.getElem_toArray, List.getElem_cons_zero, List.getElem_cons_succ]
  refine wpAnyH_ready (rs := [15]) (by kernel_rfl) (by simp) (AllReadyH.cons (i := 15) rfl (fun K hK => ?_) AllReadyH.nil)
  try simp only [List.getElem_toArray, List.getElem_cons_zero, List.getElem_cons_succ]
  go_simp
  refine hK.out _ _ ⟨(far_cell hBb).trans y1, (far_cell hBb).trans y3⟩ (fun hHeld => ?_)
  clear hK K
  try simp only [Act.put, List.setIfInBounds_toArray, List.set_cons_zero, List.set_cons_succ]
  refine wpAnyH_done (by kernel_rfl) ?_ _
  go_wp2_with fail
  first | go_end0 | refine bodyPost_ret (results_none rfl _ _ _) rfl ?_
  rw [← HU.out]
  have hsz := HSZ.out
  have hqb : b ≠ q' := by
    rcases HQ.out with h | h
    · rw [h]; exact hbq
    · have h' : w1.heap.size ≤ q' := h
      omega
  refine ⟨rfl, q', HN.out.only ((Only.refl (fun i => i = b) w2).setCell (p := ⟨b, a, none⟩) (.inl rfl) _) (fun h => hbg h.symm) (fun h => hqb h.symm), ?_, HR2.out.put a _, ?_⟩
  · rcases HQ.out with h | h
    · exact .inl h
    · right
      have h' : w1.heap.size ≤ q' := h
      rw [HBB.out]
      omega
  · have o1 : Only (three g q b) w w2 := (HO.out.mono (fun i hi => hi.elim) : Only (three g q b) w w1).trans ((Only.of_drewN HO2.out).mono (fun i hi => by rcases hi with hi | hi; exact .inl hi; exact .inr (.inl hi)))
    exact o1.setCell (p := ⟨b, a, none⟩) (.inl (.inr (.inr rfl))) _

set_option maxHeartbeats 1600000 in
theorem rask5_tree {a n V : Nat} (h : Rn w g q e) (he : EnOk e) (hR : Row w b ps pc) (hps : PsOk ps) (hbg : b ≠ g) (hbq : b ≠ q) {L : Nat} (hL : ps.length = L) (hl : L = 600) (hV : V < 4294967296) (hlen : e.l ≤ 999999000) (ha : a < 340) (hn8 : n ≤ 8) :
    Calls Try.prog 14 #[.pointer (some ⟨g, 0, none⟩), .slice (some ⟨b, 0, none⟩) L pc, .agg #[.int .i64 1, .int .i64 (a : Int), .int .i64 (n : Int), .int .u32 (V : Int)]] w
      (AskEPost w g q b pc (treE (topBits V n) a ps e n).ps (treE (topBits V n) a ps e n).e) := by
  have h256 := pow8 hn8
  have en1 : IntKind.i64.wrap ((n : Int) - 1) = (n : Int) - 1 := IntWalk.i64_in _ (by omega)
  have hlt := h.lt
  have hbl := hR.lt
  have hnew := (Only.refl (fun _ => False) w).alloc (.cells #[.int .i64 1, .int .i64 (a : Int), .int .i64 (n : Int), .int .u32 (V : Int)] 34)
  have HX0 := Lib.hid (show (w.alloc (.cells #[.int .i64 1, .int .i64 (a : Int), .int .i64 (n : Int), .int .u32 (V : Int)] 34)).cell? ⟨w.heap.size, 0, none⟩ = some (.int .i64 1) from (Blk.fresh w _ _).cell 0)
  have HX1 := Lib.hid (show (w.alloc (.cells #[.int .i64 1, .int .i64 (a : Int), .int .i64 (n : Int), .int .u32 (V : Int)] 34)).cell? ⟨w.heap.size, 1, none⟩ = some (.int .i64 (a : Int)) from (Blk.fresh w _ _).cell 1)
  have HX2 := Lib.hid (show (w.alloc (.cells #[.int .i64 1, .int .i64 (a : Int), .int .i64 (n : Int), .int .u32 (V : Int)] 34)).cell? ⟨w.heap.size, 2, none⟩ = some (.int .i64 (n : Int)) from (Blk.fresh w _ _).cell 2)
  have HX3 := Lib.hid (show (w.alloc (.cells #[.int .i64 1, .int .i64 (a : Int), .int .i64 (n : Int), .int .u32 (V : Int)] 34)).cell? ⟨w.heap.size, 3, none⟩ = some (.int .u32 (V : Int)) from (Blk.fresh w _ _).cell 3)
  have HSZ := Lib.hid (show w.heap.size < (w.alloc (.cells #[.int .i64 1, .int .i64 (a : Int), .int .i64 (n : Int), .int .u32 (V : Int)] 34)).heap.size from (Blk.fresh w _ _).lt)
  have HH := Lib.hid (h.only hnew (fun h => h) (fun h => h))
  have HR := Lib.hid (hR.only hnew (fun h => h))
  have HO := Lib.hid hnew
  have HPS := Lib.hid hps
  have HE := Lib.hid he
  clear h hR hnew hps he
  go_enter Try.func14, Try.ntmps14
  go_wp2_with fail
  have hx1 := HX1.out
  have hx2 := HX2.out
  have hx3 := HX3.out
  clear HX0 HX1 HX2 HX3
  generalize (w.alloc (.cells #[.int .i64 1, .int .i64 (a : Int), .int .i64 (n : Int), .int .u32 (V : Int)] 34)) = w1 at *
  generalize hBB : w.heap.size = B at *
  have HBB := Lib.hid hBB
  clear hBB
  have HT := Lib.hid (treE_ok (bits := topBits V n) (a := a) (n := n) (fun i => bitOf_le V _) HE.out HPS.out (by omega))
  have HSZ2 := Lib.hid HSZ.out
  go_loopw [6, 7, 8] (fun m i _ wr => ∃ (j : Nat) (T : Et) (q1 : Nat) (iv : Int), j ≤ n ∧ T = treE (topBits V n) a ps e j ∧ m = .int .i64 (T.m : Int) ∧ i = .int .i64 iv ∧ iv + 1 = ((n - j : Nat) : Int) ∧ Rn wr g q1 T.e ∧ (q1 = q ∨ w1.heap.size ≤ q1) ∧ Row wr b T.ps pc ∧ Only (three g q b) w1 wr) (fun _ i _ _ => (intOf i + 1).toNat)
  case atStart => exact ⟨0, _, q, _, Nat.zero_le _, rfl, rfl, rfl, by omega, HH.out, .inl rfl, HR.out, Only.refl _ _⟩
  case round =>
    clear HH HR
    obtain ⟨j, T, q1, iv, hj, hT, rfl, rfl, hiv, hp, hq, hr, ho⟩ := hrel
    obtain ⟨t1, t2, t3, t4, t5⟩ := HT.out j hj
    rw [← hT] at t1 t2 t3 t4 t5
    have tl := treE_len (topBits V n) a ps e j
    rw [← hT] at tl
    have HT0 := Lib.hid hT
    clear hT
    have hsz1 := HSZ2.out
    have hq1b : b ≠ q1 := by rcases hq with h | h; rw [h]; exact hbq; omega
    have hq1B : B ≠ q1 := by rcases hq with h | h <;> omega
    have hwr := ho.size
    have a1 := (ho.cell (p := ⟨B, 1, none⟩) hsz1 (by intro h; rcases h with h | h | h <;> simp at h <;> omega)).trans hx1
    have a2 := (ho.cell (p := ⟨B, 2, none⟩) hsz1 (by intro h; rcases h with h | h | h <;> simp at h <;> omega)).trans hx2
    have a3 := (ho.cell (p := ⟨B, 3, none⟩) hsz1 (by intro h; rcases h with h | h | h <;> simp at h <;> omega)).trans hx3
    by_cases hlt : j < n
    · have hpow : 2 ^ (j + 1) ≤ 2 ^ n := Nat.pow_le_pow_right (by omega) hlt
      obtain ⟨z, hz⟩ : ∃ z, z = a + T.m := ⟨_, rfl⟩
      have hz6 : z < 600 := by omega
      have hpz := getD_ok t2 (show z < T.ps.length by omega)
      have hcz := hr.cell (i := z) (by omega)
      obtain ⟨k, hk⟩ : ∃ k, k = n - 1 - j := ⟨_, rfl⟩
      obtain rfl : iv = (k : Int) := by omega
      have hbb : topBits V n j = bitOf V k := by unfold topBits; rw [hk]
      have HIV := Lib.hid hiv
      have HK := Lib.hid hk
      clear hiv
      have i0 : (k : Int) ≥ 0 := by omega
      have i1 : IntKind.i64.wrap ((k : Int) - 1) = (k : Int) - 1 := IntWalk.i64_in _ (by omega)
      have hu := bitOf_le V k
      have KA := Lib.hid (rbit5_any (b := bitOf V k) (hp.drewN 1) t1 hpz hu (by omega))
      have HST := Lib.hid (show T.step a (topBits V n j) = treE (topBits V n) a ps e (j + 1) by rw [HT0.out]; rfl)
      have hsm : (T.step a (topBits V n j)).m = 2 * T.m + bitOf V k := by rw [← hbb]; rfl
      have hse : (T.step a (topBits V n j)).e = T.e.bit (T.ps.getD z 0) (bitOf V k) := by rw [← hbb, hz]; rfl
      have hsp : (T.step a (topBits V n j)).ps = T.ps.set z (upOf (T.ps.getD z 0) (bitOf V k)) := by rw [← hbb, hz]; rfl
      have eb := bit_int V k
      have em : min k 32 = k := Nat.min_eq_left (by omega)
      have e8 : IntKind.u64.wrap (k : Int) = (k : Int) := u64_in _ (by omega)
      have e9 : IntKind.i64.wrap ((bitOf V k : Nat) : Int) = ((bitOf V k : Nat) : Int) := IntWalk.i64_in _ (by omega)
      have e0 : IntKind.i64.wrap ((a : Int) + (T.m : Int)) = (z : Int) := by rw [hz, Int.natCast_add]; exact IntWalk.i64_in _ (by omega)
      have e2 : IntKind.i64.wrap (2 * (T.m : Int)) = 2 * (T.m : Int) := IntWalk.i64_in _ (by omega)
      have e4 : IntKind.i64.wrap (2 * (T.m : Int) + ((bitOf V k : Nat) : Int)) = ((2 * T.m + bitOf V k : Nat) : Int) := by rw [show 2 * (T.m : Int) + ((bitOf V k : Nat) : Int) = ((2 * T.m + bitOf V k : Nat) : Int) by omega]; exact IntWalk.i64_in _ (by omega)
      have hz0 : (0 : Int) ≤ (z : Int) := by omega
      have hz1 : (z : Int) < (L : Int) := by omega
      rw [← hse] at KA
      generalize upOf (T.ps.getD z 0) (bitOf V k) = pq at *
      generalize T.ps.getD z 0 = p at *
      have HSM := Lib.hid hsm
      have HSP := Lib.hid hsp
      have HRr := Lib.hid hr
      have HQr := Lib.hid hq
      have HOr := Lib.hid ho
      generalize T.step a (topBits V n j) = T' at *
      generalize bitOf V k = u at *
      generalize T.m = y at *
      clear hp hr hq ho t1 t2 t3 t4 t5 tl hpow hsm hse hsp hpz hz hbb HT h256 hu hV hlen ha hl hL hz6 hk
      go_wp2_with fail
      refine wp_region_held_drew (S := fun w' => w'.cell? ⟨B, 1, none⟩ = some (.int .i64 (a : Int))) (by kernel_rfl) a1 (fun hHeld => ?_)
      refine wpAnyH_take (i := 0) (v := ?_) rfl (by kernel_rfl) (by kernel_rfl) (by kernel_rfl) (fun _ _ _ h => h) (Or.inl ⟨by rfl, ?_⟩) (by assumption) ?_
      rotate_left
      · (intro w hSw; (try dsimp only at hSw); go_simp; try with_reducible rfl)
      try simp only [Act.put, List.setIfInBounds_toArray, List.set_cons_zero, List.set_cons_succ, List.getElem_toArray, List.getElem_cons_zero, List.getElem_cons_succ]
      refine wpAnyH_take (i := 1) (v := ?_) rfl (by kernel_rfl) (by kernel_rfl) (by kernel_rfl) (fun _ _ _ h => h) (Or.inl ⟨by rfl, ?_⟩) (by assumption) ?_
      rotate_left
      · (intro w hSw; (try dsimp only at hSw); go_simp; try with_reducible rfl)
      try simp only [Act.put, List.setIfInBounds_toArray, List.set_cons_zero, List.set_cons_succ, List.getElem_toArray, List.getElem_cons_zero, List.getElem_cons_succ]
      refine wpAnyH_take (i := 2) (v := ?_) rfl (by kernel_rfl) (by kernel_rfl) (by kernel_rfl) (fun _ _ _ h => h) (Or.inl ⟨by rfl, ?_⟩) (by assumption) ?_
      rotate_left
      · (intro w hSw; (try dsimp only at hSw); go_simp; try with_reducible rfl)
      try simp only [Act.put, List.setIfInBounds_toArray, List.set_cons_zero, List.set_cons_succ, List.getElem_toArray, List.getElem_cons_zero, List.getElem_cons_succ]
      refine wpAnyH_take (i := 3) (v := ?_) rfl (by kernel_rfl) (by kernel_rfl) (by kernel_rfl) (fun _ _ _ h => h) (Or.inl ⟨by rfl, ?_⟩) (by assumption) ?_
      rotate_left
      · (intro w hSw; (try dsimp only at hSw); go_simp; try with_reducible rfl)
      try simp only [Act.put, List.setIfInBounds_toArray, List.set_cons_zero, List.set_cons_succ, List.getElem_toArray, List.getElem_cons_zero, List.getElem_cons_succ]
      refine wpAnyH_take (i := 4) (v := ?_) rfl (by kernel_rfl) (by kernel_rfl) (by kernel_rfl) (fun _ _ _ h => h) (Or.inl ⟨by rfl, ?_⟩) (by assumption) ?_
      rotate_left
      · (intro w hSw; (try dsimp only at hSw); go_simp; try with_reducible rfl)
      try simp only [Act.put, List.setIfInBounds_toArray, List.set_cons_zero, List.set_cons_succ, List.getElem_toArray, List.getElem_cons_zero, List.getElem_cons_succ]
      refine wpAnyH_take (i := 5) (v := ?_) rfl (by kernel_rfl) (by kernel_rfl) (by kernel_rfl) (fun _ _ _ h => h) (Or.inl ⟨by rfl, ?_⟩) (by assumption) ?_
      rotate_left
      · (intro w hSw; (try dsimp only at hSw); go_simp; try with_reducible rfl)
      try simp only [Act.put, List.setIfInBounds_toArray, List.set_cons_zero, List.set_cons_succ, List.getElem_toArray, List.getElem_cons_zero, List.getElem_cons_succ]
      refine wpAnyH_take (i := 6) (v := ?_) rfl (by kernel_rfl) (by kernel_rfl) (by kernel_rfl) (fun _ _ _ h => h) (Or.inl ⟨by rfl, ?_⟩) (by assumption) ?_
      rotate_left
      · (intro w hSw; (try dsimp only at hSw); go_simp; try with_reducible rfl)
      try simp only [Act.put, List.setIfInBounds_toArray, List.set_cons_zero, List.set_cons_succ, List.getElem_toArray, List.getElem_cons_zero, List.getElem_cons_succ]
      refine wpAnyH_take (i := 7) (v := ?_) rfl (by kernel_rfl) (by kernel_rfl) (by kernel_rfl) (fun _ _ _ h => h) (Or.inl ⟨by rfl, ?_⟩) (by assumption) ?_
      rotate_left
      · (intro w hSw; (try dsimp only at hSw); go_simp; try with_reducible rfl)
      try simp only [Act.put, List.setIfInBounds_toArray, List.set_cons_zero, List.set_cons_succ, List.getElem_toArray, List.getElem_cons_zero, List.getElem_cons_succ]
      refine wpAnyH_take (i := 8) (v := ?_) rfl (by kernel_rfl) (by kernel_rfl) (by kernel_rfl) (fun _ _ _ h => h) (Or.inl ⟨by rfl, ?_⟩) (by assumption) ?_
      rotate_left
      · (intro w hSw; (try dsimp only at hSw); go_simp; try with_reducible rfl)
      try simp only [Act.put, List.setIfInBounds_toArray, List.set_cons_zero, List.set_cons_succ, List.getElem_toArray, List.getElem_cons_zero, List.getElem_cons_succ]
      refine wpAnyH_take (i := 9) (v := ?_) rfl (by kernel_rfl) (by kernel_rfl) (by kernel_rfl) (fun _ _ _ h => h) (Or.inl ⟨by rfl, ?_⟩) (by assumption) ?_
      rotate_left
      · (intro w hSw; (try dsimp only at hSw); go_simp; try with_reducible rfl)
      try simp only [Act.put, List.setIfInBounds_toArray, List.set_cons_zero, List.set_cons_succ, List.getElem_toArray, List.getElem_cons_zero, List.getElem_cons_succ]
      refine wpAnyH_take (i := 10) (v := ?_) rfl (by kernel_rfl) (by kernel_rfl) (by kernel_rfl) (fun _ _ _ h => h) (Or.inl ⟨by rfl, ?_⟩) (by assumption) ?_
      rotate_left
      · (intro w hSw; (try dsimp only at hSw); go_simp; try with_reducible rfl)
      try simp only [Act.put, List.setIfInBounds_toArray, List.set_cons_zero, List.set_cons_succ, List.getElem_toArray, List.getElem_cons_zero, List.getElem_cons_succ]
      refine wpAnyH_take (i := 11) (v := ?_) rfl (by kernel_rfl) (by kernel_rfl) (by kernel_rfl) (fun _ _ _ h => h) (Or.inl ⟨by rfl, ?_⟩) (by assumption) ?_
      rotate_left
      · (intro w hSw; (try dsimp only at hSw); go_simp; try with_reducible rfl)
      try simp only [Act.put, List.setIfInBounds_toArray, List.set_cons_zero, List.set_cons_succ, List.getElem_toArray, List.getElem_cons_zero, List.getElem_cons_succ]
      refine wpAnyH_take (i := 13) (v := ?_) rfl (by kernel_rfl) (by kernel_rfl) (by kernel_rfl) (fun _ _ _ h => h) (Or.inl ⟨by rfl, ?_⟩) (by assumption) ?_
      rotate_left
      · (intro w hSw; (try dsimp only at hSw); go_simp; try with_reducible rfl)
      try simp only [Act.put, List.setIfInBounds_toArray, List.set_cons_zero, List.set_cons_succ, List.getElem_toArray, List.getElem_cons_zero, List.getElem_cons_succ]
      refine wpAnyH_ready (rs := [12]) (by kernel_rfl) (by simp) (AllReadyH.cons (i := 12) rfl (fun K hK => ?_) AllReadyH.nil)
      try simp only [List.getElem_toArray, List.getElem_cons_zero, List.getElem_cons_succ]
      go_simp
      refine hK.out _ _ a1 (fun hHeld => ?_)
      clear hK K
      try simp only [Act.put, List.setIfInBounds_toArray, List.set_cons_zero, List.set_cons_succ]
      refine wpAnyH_ready (rs := [14]) (by kernel_rfl) (by simp) (AllReadyH.cons (i := 14) rfl (fun K hK => ?_) AllReadyH.nil)
      try simp only [List.getElem_toArray, List.getElem_cons_zero, List.getElem_cons_succ]
      go_simp
      refine KA.out.mono ?_
      rintro e' w2 ⟨rfl, q2, hN, hq2, hO2⟩
      have hnb : ¬ two g q1 b := not_two hbg hq1b
      have hnB : ¬ two g q1 B := not_two (by omega) hq1B
      have hR2 := (HRr.out.drewN 1).only hO2 hnb
      have k1 : w2.cell? ⟨b, z, none⟩ = some (.int .u16 (p : Int)) := (hO2.cell (p := ⟨b, z, none⟩) (show b < (wr.drewN 1).heap.size from HRr.out.lt) hnb).trans hcz
      have k2 : w2.frozen? ⟨b, z, none⟩ = false := hR2.free z
      have y1 := (hO2.cell (p := ⟨B, 1, none⟩) (show B < (wr.drewN 1).heap.size by show B < wr.heap.size; omega) hnB).trans a1
      have hBb : B ≠ b := by omega
      have HN := Lib.hid hN
      have HQ := Lib.hid hq2
      have HR2 := Lib.hid hR2
      have HO2 := Lib.hid hO2
      clear hN hq2 hR2 hO2
      refine hK.out _ _ y1 (fun hHeld => ?_)
      clear hK K
      try simp only [Act.put, List.setIfInBounds_toArray, List.set_cons_zero, List.set_cons_succ]
      refine wpAnyH_take (i := 15) (v := ?_) rfl (by kernel_rfl) (by kernel_rfl) (by kernel_rfl) (fun _ _ _ h => h) (Or.inl ⟨by rfl, ?_⟩) (by assumption) ?_
      rotate_left
      · (intro w hSw; (try dsimp only at hSw); go_simp; try with_reducible rfl)
      try simp only [Act.put, List.setIfInBounds_toArray, List.set_cons_zero, List.set_cons_succ, List.getElem_toArray, List.getElem_cons_zero, List.getElem_cons_succ]
      refine wpAnyH_ready (rs := [16]) (by kernel_rfl) (by simp) (AllReadyH.cons (i := 16) rfl (fun K hK => ?_) AllReadyH.nil)
      try simp only [List.getElem_toArray, List.getElem_cons_zero, List.getElem_cons_succ]
      go_simp
      refine hK.out _ _ ((far_cell hBb).trans y1) (fun hHeld => ?_)
      clear hK K
      try simp only [Act.put, List.setIfInBounds_toArray, List.set_cons_zero, List.set_cons_succ]
      refine wpAnyH_done (by kernel_rfl) ?_ _
      go_wp2_with fail
      go_roundw
      case rel =>
        have hq2 : q2 = q ∨ w1.heap.size ≤ q2 := by
          rcases HQ.out with h | h
          · rw [h]; exact HQr.out
          · have h' : wr.heap.size ≤ q2 := h
            right; omega
        have hbl2 := HRr.out.lt
        have hq2b : b ≠ q2 := by
          rcases HQ.out with h | h
          · rw [h]; exact hq1b
          · have h' : wr.heap.size ≤ q2 := h
            omega
        have hN2 := HN.out.only ((Only.refl (fun i => i = b) w2).setCell (p := ⟨b, z, none⟩) (.inl rfl) (.int .u16 (pq : Int))) (fun h => hbg h.symm) (fun h => hq2b h.symm)
        have hR3 := HR2.out.put z pq
        rw [← HSP.out] at hR3
        have hO3 : Only (three g q b) w1 (w2.setCell ⟨b, z, none⟩ (.int .u16 (pq : Int))) :=
          ((HOr.out).trans' (Only.of_drewN HO2.out) (fun i hi => by
            rcases hi with hi | hi
            · exact .inl (.inl hi)
            · rcases HQr.out with h | h
              · left; right; left; omega
              · right; omega)).setCell (p := ⟨b, z, none⟩) (.inl (.inr (.inr rfl))) _
        exact ⟨j + 1, T', q2, (k : Int) - 1, by omega, HST.out, by rw [HSM.out]; go_num, rfl, by have := HIV.out; omega, hN2, hq2, hR3, hO3⟩
      case measure => first | (simp [intOf]; done) | (simp [intOf]; omega)
    · obtain rfl : j = n := by omega
      have i0 : ¬ iv ≥ 0 := by omega
      have HP := Lib.hid hp
      have HR := Lib.hid hr
      have HQ := Lib.hid hq
      have HO1 := Lib.hid ho
      clear hp hr hq ho t1 t2 t3 t4 t5 HT
      go_wp2_with fail
      first | go_end0 | refine bodyPost_ret (results_none rfl _ _ _) rfl ?_
      rw [← HT0.out]
      refine ⟨rfl, q1, HP.out, ?_, HR.out, (HO.out.mono (fun i hi => hi.elim) : Only (three g q b) w w1).trans HO1.out⟩
      rcases HQ.out with h | h
      · exact .inl h
      · right
        rw [HBB.out]
        omega

set_option maxHeartbeats 1600000 in
theorem rask5_rev {a n V : Nat} (h : Rn w g q e) (he : EnOk e) (hR : Row w b ps pc) (hps : PsOk ps) (hbg : b ≠ g) (hbq : b ≠ q) {L : Nat} (hL : ps.length = L) (hl : L = 600) (hV : V < 4294967296) (hlen : e.l ≤ 999999000) (ha : a < 340) (hn8 : n ≤ 8) :
    Calls Try.prog 14 #[.pointer (some ⟨g, 0, none⟩), .slice (some ⟨b, 0, none⟩) L pc, .agg #[.int .i64 2, .int .i64 (a : Int), .int .i64 (n : Int), .int .u32 (V : Int)]] w
      (AskEPost w g q b pc (treE (bitOf V) a ps e n).ps (treE (bitOf V) a ps e n).e) := by
  have h256 := pow8 hn8
  have en1 : IntKind.i64.wrap ((n : Int) - 1) = (n : Int) - 1 := IntWalk.i64_in _ (by omega)
  have hlt := h.lt
  have hbl := hR.lt
  have hnew := (Only.refl (fun _ => False) w).alloc (.cells #[.int .i64 2, .int .i64 (a : Int), .int .i64 (n : Int), .int .u32 (V : Int)] 34)
  have HX0 := Lib.hid (show (w.alloc (.cells #[.int .i64 2, .int .i64 (a : Int), .int .i64 (n : Int), .int .u32 (V : Int)] 34)).cell? ⟨w.heap.size, 0, none⟩ = some (.int .i64 2) from (Blk.fresh w _ _).cell 0)
  have HX1 := Lib.hid (show (w.alloc (.cells #[.int .i64 2, .int .i64 (a : Int), .int .i64 (n : Int), .int .u32 (V : Int)] 34)).cell? ⟨w.heap.size, 1, none⟩ = some (.int .i64 (a : Int)) from (Blk.fresh w _ _).cell 1)
  have HX2 := Lib.hid (show (w.alloc (.cells #[.int .i64 2, .int .i64 (a : Int), .int .i64 (n : Int), .int .u32 (V : Int)] 34)).cell? ⟨w.heap.size, 2, none⟩ = some (.int .i64 (n : Int)) from (Blk.fresh w _ _).cell 2)
  have HX3 := Lib.hid (show (w.alloc (.cells #[.int .i64 2, .int .i64 (a : Int), .int .i64 (n : Int), .int .u32 (V : Int)] 34)).cell? ⟨w.heap.size, 3, none⟩ = some (.int .u32 (V : Int)) from (Blk.fresh w _ _).cell 3)
  have HSZ := Lib.hid (show w.heap.size < (w.alloc (.cells #[.int .i64 2, .int .i64 (a : Int), .int .i64 (n : Int), .int .u32 (V : Int)] 34)).heap.size from (Blk.fresh w _ _).lt)
  have HH := Lib.hid (h.only hnew (fun h => h) (fun h => h))
  have HR := Lib.hid (hR.only hnew (fun h => h))
  have HO := Lib.hid hnew
  have HPS := Lib.hid hps
  have HE := Lib.hid he
  clear h hR hnew hps he
  go_enter Try.func14, Try.ntmps14
  go_wp2_with fail
  have hx1 := HX1.out
  have hx2 := HX2.out
  have hx3 := HX3.out
  clear HX0 HX1 HX2 HX3
  generalize (w.alloc (.cells #[.int .i64 2, .int .i64 (a : Int), .int .i64 (n : Int), .int .u32 (V : Int)] 34)) = w1 at *
  generalize hBB : w.heap.size = B at *
  have HBB := Lib.hid hBB
  clear hBB
  have HT := Lib.hid (treE_ok (bits := bitOf V) (a := a) (n := n) (fun i => bitOf_le V _) HE.out HPS.out (by omega))
  have HSZ2 := Lib.hid HSZ.out
  go_loopw [9, 10, 11] (fun m i _ wr => ∃ (j : Nat) (T : Et) (q1 : Nat), j ≤ n ∧ T = treE (bitOf V) a ps e j ∧ m = .int .i64 (T.m : Int) ∧ i = .int .i64 (j : Int) ∧ Rn wr g q1 T.e ∧ (q1 = q ∨ w1.heap.size ≤ q1) ∧ Row wr b T.ps pc ∧ Only (three g q b) w1 wr) (fun _ i _ _ => n - (intOf i).toNat)
  case atStart => exact ⟨0, _, q, Nat.zero_le _, rfl, rfl, rfl, HH.out, .inl rfl, HR.out, Only.refl _ _⟩
  case round =>
    clear HH HR
    obtain ⟨j, T, q1, hj, hT, rfl, rfl, hp, hq, hr, ho⟩ := hrel
    obtain ⟨t1, t2, t3, t4, t5⟩ := HT.out j hj
    rw [← hT] at t1 t2 t3 t4 t5
    have tl := treE_len (bitOf V) a ps e j
    rw [← hT] at tl
    have HT0 := Lib.hid hT
    clear hT
    have hsz1 := HSZ2.out
    have hq1b : b ≠ q1 := by rcases hq with h | h; rw [h]; exact hbq; omega
    have hq1B : B ≠ q1 := by rcases hq with h | h <;> omega
    have hwr := ho.size
    have a1 := (ho.cell (p := ⟨B, 1, none⟩) hsz1 (by intro h; rcases h with h | h | h <;> simp at h <;> omega)).trans hx1
    have a2 := (ho.cell (p := ⟨B, 2, none⟩) hsz1 (by intro h; rcases h with h | h | h <;> simp at h <;> omega)).trans hx2
    have a3 := (ho.cell (p := ⟨B, 3, none⟩) hsz1 (by intro h; rcases h with h | h | h <;> simp at h <;> omega)).trans hx3
    by_cases hlt : j < n
    · have hpow : 2 ^ (j + 1) ≤ 2 ^ n := Nat.pow_le_pow_right (by omega) hlt
      obtain ⟨z, hz⟩ : ∃ z, z = a + T.m := ⟨_, rfl⟩
      have hz6 : z < 600 := by omega
      have hpz := getD_ok t2 (show z < T.ps.length by omega)
      have hcz := hr.cell (i := z) (by omega)
      have hbb : bitOf V j = bitOf V j := rfl
      have i0 : (j : Int) < (n : Int) := by omega
      have hu := bitOf_le V j
      have KA := Lib.hid (rbit5_any (b := bitOf V j) (hp.drewN 1) t1 hpz hu (by omega))
      have HST := Lib.hid (show T.step a (bitOf V j) = treE (bitOf V) a ps e (j + 1) by rw [HT0.out]; rfl)
      have hsm : (T.step a (bitOf V j)).m = 2 * T.m + bitOf V j := by rw [← hbb]; rfl
      have hse : (T.step a (bitOf V j)).e = T.e.bit (T.ps.getD z 0) (bitOf V j) := by rw [← hbb, hz]; rfl
      have hsp : (T.step a (bitOf V j)).ps = T.ps.set z (upOf (T.ps.getD z 0) (bitOf V j)) := by rw [← hbb, hz]; rfl
      have eb := bit_int V j
      have em : min j 32 = j := Nat.min_eq_left (by omega)
      have e8 : IntKind.u64.wrap (j : Int) = (j : Int) := u64_in _ (by omega)
      have e9 : IntKind.i64.wrap ((bitOf V j : Nat) : Int) = ((bitOf V j : Nat) : Int) := IntWalk.i64_in _ (by omega)
      have e0 : IntKind.i64.wrap ((a : Int) + (T.m : Int)) = (z : Int) := by rw [hz, Int.natCast_add]; exact IntWalk.i64_in _ (by omega)
      have e2 : IntKind.i64.wrap (2 * (T.m : Int)) = 2 * (T.m : Int) := IntWalk.i64_in _ (by omega)
      have e4 : IntKind.i64.wrap (2 * (T.m : Int) + ((bitOf V j : Nat) : Int)) = ((2 * T.m + bitOf V j : Nat) : Int) := by rw [show 2 * (T.m : Int) + ((bitOf V j : Nat) : Int) = ((2 * T.m + bitOf V j : Nat) : Int) by omega]; exact IntWalk.i64_in _ (by omega)
      have hz0 : (0 : Int) ≤ (z : Int) := by omega
      have hz1 : (z : Int) < (L : Int) := by omega
      rw [← hse] at KA
      generalize upOf (T.ps.getD z 0) (bitOf V j) = pq at *
      generalize T.ps.getD z 0 = p at *
      have HSM := Lib.hid hsm
      have HSP := Lib.hid hsp
      have HRr := Lib.hid hr
      have HQr := Lib.hid hq
      have HOr := Lib.hid ho
      generalize T.step a (bitOf V j) = T' at *
      generalize bitOf V j = u at *
      generalize T.m = y at *
      clear hp hr hq ho t1 t2 t3 t4 t5 tl hpow hsm hse hsp hpz hz hbb HT h256 hu hV hlen ha hl hL hz6
      go_wp2_with fail
      refine wp_region_held_drew (S := fun w' => w'.cell? ⟨B, 1, none⟩ = some (.int .i64 (a : Int))) (by kernel_rfl) a1 (fun hHeld => ?_)
      refine wpAnyH_take (i := 0) (v := ?_) rfl (by kernel_rfl) (by kernel_rfl) (by kernel_rfl) (fun _ _ _ h => h) (Or.inl ⟨by rfl, ?_⟩) (by assumption) ?_
      rotate_left
      · (intro w hSw; (try dsimp only at hSw); go_simp; try with_reducible rfl)
      try simp only [Act.put, List.setIfInBounds_toArray, List.set_cons_zero, List.set_cons_succ, List.getElem_toArray, List.getElem_cons_zero, List.getElem_cons_succ]
      refine wpAnyH_take (i := 1) (v := ?_) rfl (by kernel_rfl) (by kernel_rfl) (by kernel_rfl) (fun _ _ _ h => h) (Or.inl ⟨by rfl, ?_⟩) (by assumption) ?_
      rotate_left
      · (intro w hSw; (try dsimp only at hSw); go_simp; try with_reducible rfl)
      try simp only [Act.put, List.setIfInBounds_toArray, List.set_cons_zero, List.set_cons_succ, List.getElem_toArray, List.getElem_cons_zero, List.getElem_cons_succ]
      refine wpAnyH_take (i := 2) (v := ?_) rfl (by kernel_rfl) (by kernel_rfl) (by kernel_rfl) (fun _ _ _ h => h) (Or.inl ⟨by rfl, ?_⟩) (by assumption) ?_
      rotate_left
      · (intro w hSw; (try dsimp only at hSw); go_simp; try with_reducible rfl)
      try simp only [Act.put, List.setIfInBounds_toArray, List.set_cons_zero, List.set_cons_succ, List.getElem_toArray, List.getElem_cons_zero, List.getElem_cons_succ]
      refine wpAnyH_take (i := 3) (v := ?_) rfl (by kernel_rfl) (by kernel_rfl) (by kernel_rfl) (fun _ _ _ h => h) (Or.inl ⟨by rfl, ?_⟩) (by assumption) ?_
      rotate_left
      · (intro w hSw; (try dsimp only at hSw); go_simp; try with_reducible rfl)
      try simp only [Act.put, List.setIfInBounds_toArray, List.set_cons_zero, List.set_cons_succ, List.getElem_toArray, List.getElem_cons_zero, List.getElem_cons_succ]
      refine wpAnyH_take (i := 4) (v := ?_) rfl (by kernel_rfl) (by kernel_rfl) (by kernel_rfl) (fun _ _ _ h => h) (Or.inl ⟨by rfl, ?_⟩) (by assumption) ?_
      rotate_left
      · (intro w hSw; (try dsimp only at hSw); go_simp; try with_reducible rfl)
      try simp only [Act.put, List.setIfInBounds_toArray, List.set_cons_zero, List.set_cons_succ, List.getElem_toArray, List.getElem_cons_zero, List.getElem_cons_succ]
      refine wpAnyH_take (i := 5) (v := ?_) rfl (by kernel_rfl) (by kernel_rfl) (by kernel_rfl) (fun _ _ _ h => h) (Or.inl ⟨by rfl, ?_⟩) (by assumption) ?_
      rotate_left
      · (intro w hSw; (try dsimp only at hSw); go_simp; try with_reducible rfl)
      try simp only [Act.put, List.setIfInBounds_toArray, List.set_cons_zero, List.set_cons_succ, List.getElem_toArray, List.getElem_cons_zero, List.getElem_cons_succ]
      refine wpAnyH_take (i := 6) (v := ?_) rfl (by kernel_rfl) (by kernel_rfl) (by kernel_rfl) (fun _ _ _ h => h) (Or.inl ⟨by rfl, ?_⟩) (by assumption) ?_
      rotate_left
      · (intro w hSw; (try dsimp only at hSw); go_simp; try with_reducible rfl)
      try simp only [Act.put, List.setIfInBounds_toArray, List.set_cons_zero, List.set_cons_succ, List.getElem_toArray, List.getElem_cons_zero, List.getElem_cons_succ]
      refine wpAnyH_take (i := 7) (v := ?_) rfl (by kernel_rfl) (by kernel_rfl) (by kernel_rfl) (fun _ _ _ h => h) (Or.inl ⟨by rfl, ?_⟩) (by assumption) ?_
      rotate_left
      · (intro w hSw; (try dsimp only at hSw); go_simp; try with_reducible rfl)
      try simp only [Act.put, List.setIfInBounds_toArray, List.set_cons_zero, List.set_cons_succ, List.getElem_toArray, List.getElem_cons_zero, List.getElem_cons_succ]
      refine wpAnyH_take (i := 8) (v := ?_) rfl (by kernel_rfl) (by kernel_rfl) (by kernel_rfl) (fun _ _ _ h => h) (Or.inl ⟨by rfl, ?_⟩) (by assumption) ?_
      rotate_left
      · (intro w hSw; (try dsimp only at hSw); go_simp; try with_reducible rfl)
      try simp only [Act.put, List.setIfInBounds_toArray, List.set_cons_zero, List.set_cons_succ, List.getElem_toArray, List.getElem_cons_zero, List.getElem_cons_succ]
      refine wpAnyH_take (i := 9) (v := ?_) rfl (by kernel_rfl) (by kernel_rfl) (by kernel_rfl) (fun _ _ _ h => h) (Or.inl ⟨by rfl, ?_⟩) (by assumption) ?_
      rotate_left
      · (intro w hSw; (try dsimp only at hSw); go_simp; try with_reducible rfl)
      try simp only [Act.put, List.setIfInBounds_toArray, List.set_cons_zero, List.set_cons_succ, List.getElem_toArray, List.getElem_cons_zero, List.getElem_cons_succ]
      refine wpAnyH_take (i := 10) (v := ?_) rfl (by kernel_rfl) (by kernel_rfl) (by kernel_rfl) (fun _ _ _ h => h) (Or.inl ⟨by rfl, ?_⟩) (by assumption) ?_
      rotate_left
      · (intro w hSw; (try dsimp only at hSw); go_simp; try with_reducible rfl)
      try simp only [Act.put, List.setIfInBounds_toArray, List.set_cons_zero, List.set_cons_succ, List.getElem_toArray, List.getElem_cons_zero, List.getElem_cons_succ]
      refine wpAnyH_take (i := 11) (v := ?_) rfl (by kernel_rfl) (by kernel_rfl) (by kernel_rfl) (fun _ _ _ h => h) (Or.inl ⟨by rfl, ?_⟩) (by assumption) ?_
      rotate_left
      · (intro w hSw; (try dsimp only at hSw); go_simp; try with_reducible rfl)
      try simp only [Act.put, List.setIfInBounds_toArray, List.set_cons_zero, List.set_cons_succ, List.getElem_toArray, List.getElem_cons_zero, List.getElem_cons_succ]
      refine wpAnyH_take (i := 13) (v := ?_) rfl (by kernel_rfl) (by kernel_rfl) (by kernel_rfl) (fun _ _ _ h => h) (Or.inl ⟨by rfl, ?_⟩) (by assumption) ?_
      rotate_left
      · (intro w hSw; (try dsimp only at hSw); go_simp; try with_reducible rfl)
      try simp only [Act.put, List.setIfInBounds_toArray, List.set_cons_zero, List.set_cons_succ, List.getElem_toArray, List.getElem_cons_zero, List.getElem_cons_succ]
      refine wpAnyH_ready (rs := [12]) (by kernel_rfl) (by simp) (AllReadyH.cons (i := 12) rfl (fun K hK => ?_) AllReadyH.nil)
      try simp only [List.getElem_toArray, List.getElem_cons_zero, List.getElem_cons_succ]
      go_simp
      refine hK.out _ _ a1 (fun hHeld => ?_)
      clear hK K
      try simp only [Act.put, List.setIfInBounds_toArray, List.set_cons_zero, List.set_cons_succ]
      refine wpAnyH_ready (rs := [14]) (by kernel_rfl) (by simp) (AllReadyH.cons (i := 14) rfl (fun K hK => ?_) AllReadyH.nil)
      try simp only [List.getElem_toArray, List.getElem_cons_zero, List.getElem_cons_succ]
      go_simp
      refine KA.out.mono ?_
      rintro e' w2 ⟨rfl, q2, hN, hq2, hO2⟩
      have hnb : ¬ two g q1 b := not_two hbg hq1b
      have hnB : ¬ two g q1 B := not_two (by omega) hq1B
      have hR2 := (HRr.out.drewN 1).only hO2 hnb
      have k1 : w2.cell? ⟨b, z, none⟩ = some (.int .u16 (p : Int)) := (hO2.cell (p := ⟨b, z, none⟩) (show b < (wr.drewN 1).heap.size from HRr.out.lt) hnb).trans hcz
      have k2 : w2.frozen? ⟨b, z, none⟩ = false := hR2.free z
      have y1 := (hO2.cell (p := ⟨B, 1, none⟩) (show B < (wr.drewN 1).heap.size by show B < wr.heap.size; omega) hnB).trans a1
      have hBb : B ≠ b := by omega
      have HN := Lib.hid hN
      have HQ := Lib.hid hq2
      have HR2 := Lib.hid hR2
      have HO2 := Lib.hid hO2
      clear hN hq2 hR2 hO2
      refine hK.out _ _ y1 (fun hHeld => ?_)
      clear hK K
      try simp only [Act.put, List.setIfInBounds_toArray, List.set_cons_zero, List.set_cons_succ]
      refine wpAnyH_take (i := 15) (v := ?_) rfl (by kernel_rfl) (by kernel_rfl) (by kernel_rfl) (fun _ _ _ h => h) (Or.inl ⟨by rfl, ?_⟩) (by assumption) ?_
      rotate_left
      · (intro w hSw; (try dsimp only at hSw); go_simp; try with_reducible rfl)
      try simp only [Act.put, List.setIfInBounds_toArray, List.set_cons_zero, List.set_cons_succ, List.getElem_toArray, List.getElem_cons_zero, List.getElem_cons_succ]
      refine wpAnyH_ready (rs := [16]) (by kernel_rfl) (by simp) (AllReadyH.cons (i := 16) rfl (fun K hK => ?_) AllReadyH.nil)
      try simp only [List.getElem_toArray, List.getElem_cons_zero, List.getElem_cons_succ]
      go_simp
      refine hK.out _ _ ((far_cell hBb).trans y1) (fun hHeld => ?_)
      clear hK K
      try simp only [Act.put, List.setIfInBounds_toArray, List.set_cons_zero, List.set_cons_succ]
      refine wpAnyH_done (by kernel_rfl) ?_ _
      go_wp2_with fail
      go_roundw
      case rel =>
        have hq2 : q2 = q ∨ w1.heap.size ≤ q2 := by
          rcases HQ.out with h | h
          · rw [h]; exact HQr.out
          · have h' : wr.heap.size ≤ q2 := h
            right; omega
        have hbl2 := HRr.out.lt
        have hq2b : b ≠ q2 := by
          rcases HQ.out with h | h
          · rw [h]; exact hq1b
          · have h' : wr.heap.size ≤ q2 := h
            omega
        have hN2 := HN.out.only ((Only.refl (fun i => i = b) w2).setCell (p := ⟨b, z, none⟩) (.inl rfl) (.int .u16 (pq : Int))) (fun h => hbg h.symm) (fun h => hq2b h.symm)
        have hR3 := HR2.out.put z pq
        rw [← HSP.out] at hR3
        have hO3 : Only (three g q b) w1 (w2.setCell ⟨b, z, none⟩ (.int .u16 (pq : Int))) :=
          ((HOr.out).trans' (Only.of_drewN HO2.out) (fun i hi => by
            rcases hi with hi | hi
            · exact .inl (.inl hi)
            · rcases HQr.out with h | h
              · left; right; left; omega
              · right; omega)).setCell (p := ⟨b, z, none⟩) (.inl (.inr (.inr rfl))) _
        exact ⟨j + 1, T', q2, by omega, HST.out, by rw [HSM.out]; go_num, by go_num, hN2, hq2, hR3, hO3⟩
      case measure => first | (simp [intOf]; done) | (simp [intOf]; omega)
    · obtain rfl : j = n := by omega
      have HP := Lib.hid hp
      have HR := Lib.hid hr
      have HQ := Lib.hid hq
      have HO1 := Lib.hid ho
      clear hp hr hq ho t1 t2 t3 t4 t5 HT
      go_wp2_with fail
      first | go_end0 | refine bodyPost_ret (results_none rfl _ _ _) rfl ?_
      rw [← HT0.out]
      refine ⟨rfl, q1, HP.out, ?_, HR.out, (HO.out.mono (fun i hi => hi.elim) : Only (three g q b) w w1).trans HO1.out⟩
      rcases HQ.out with h | h
      · exact .inl h
      · right
        rw [HBB.out]
        omega

/-- the reference's coder with its range stored -/
theorem rn_range {w : World} {g q h : Nat} {e : En} (hN : Rn w g q e) : Rn (w.setCell ⟨g, 1, none⟩ (.int .u64 (h : Int))) g q ⟨e.n, e.l, h⟩ := by
  obtain ⟨c, bs, hB, hY, hn, hl, hqg⟩ := hN
  exact ⟨c, bs, hB.put 1 (.int .u64 (h : Int)), hY.only ((Only.refl (fun i => i = g) w).setCell (p := ⟨g, 1, none⟩) (.inl rfl) _) hqg, hn, hl, hqg⟩
theorem rn_cells {w : World} {g q : Nat} {e : En} (hN : Rn w g q e) : w.cell? ⟨g, 1, none⟩ = some (.int .u64 (e.r : Int)) ∧ w.frozen? ⟨g, 1, none⟩ = false := by
  obtain ⟨c, bs, hB, _⟩ := hN
  exact ⟨hB.cell 1, hB.free 1⟩
/-- an addition, over the coder's state -/
def AddEPost (w : World) (g q : Nat) (e' : En) (e : Ending) (w' : World) : Prop := e = .returned (.tuple #[]) ∧ Rn w' g q e' ∧ Only (fun i => i = q) w w'
theorem rn_add {w : World} {g q v : Nat} {e : En} (hN : Rn w g q e) (hv : v < 4294967296) (hfit : e.n + v < 256 ^ e.l) (hlen : e.l ≤ 1000000000) :
    Calls Try.prog 32 #[.pointer (some ⟨g, 0, none⟩), .int .u64 (v : Int)] w (AddEPost w g q ⟨e.n + v, e.l, e.r⟩) := by
  obtain ⟨c, bs, hB, hY, hn, hl, hqg⟩ := hN
  refine (add_any (v := v) (N := e.n + v) hB hY hqg hv (by rw [hn]) (by rw [hl]; exact hfit) (by omega)).mono ?_
  rintro e' w' ⟨rfl, cs, h1, h2, h3, h4, h5⟩
  exact ⟨rfl, ⟨c, cs, by rw [h4]; exact h1, h2, h3, h4.trans hl, hqg⟩, h5⟩

set_option maxHeartbeats 4000000 in
theorem rask5_straight {a : Int} {n V : Nat} (h : Rn w g q e) (he : EnOk e) (hR : Row w b ps pc) (hps : PsOk ps) (hbg : b ≠ g) (hbq : b ≠ q) {L : Nat} (hL : ps.length = L) (hl : L = 600) (hV : V < 4294967296) (hlen : e.l ≤ 999999000) (hn : n ≤ 32) :
    Calls Try.prog 14 #[.pointer (some ⟨g, 0, none⟩), .slice (some ⟨b, 0, none⟩) L pc, .agg #[.int .i64 3, .int .i64 a, .int .i64 (n : Int), .int .u32 (V : Int)]] w
      (AskEPost w g q b pc ps (strE e V n n)) := by
  have en1 : IntKind.i64.wrap ((n : Int) - 1) = (n : Int) - 1 := IntWalk.i64_in _ (by omega)
  have hlt := h.lt
  have hbl := hR.lt
  have hnew := (Only.refl (fun _ => False) w).alloc (.cells #[.int .i64 3, .int .i64 a, .int .i64 (n : Int), .int .u32 (V : Int)] 34)
  have HX0 := Lib.hid (show (w.alloc (.cells #[.int .i64 3, .int .i64 a, .int .i64 (n : Int), .int .u32 (V : Int)] 34)).cell? ⟨w.heap.size, 0, none⟩ = some (.int .i64 3) from (Blk.fresh w _ _).cell 0)
  have HX1 := Lib.hid (show (w.alloc (.cells #[.int .i64 3, .int .i64 a, .int .i64 (n : Int), .int .u32 (V : Int)] 34)).cell? ⟨w.heap.size, 1, none⟩ = some (.int .i64 a) from (Blk.fresh w _ _).cell 1)
  have HX2 := Lib.hid (show (w.alloc (.cells #[.int .i64 3, .int .i64 a, .int .i64 (n : Int), .int .u32 (V : Int)] 34)).cell? ⟨w.heap.size, 2, none⟩ = some (.int .i64 (n : Int)) from (Blk.fresh w _ _).cell 2)
  have HX3 := Lib.hid (show (w.alloc (.cells #[.int .i64 3, .int .i64 a, .int .i64 (n : Int), .int .u32 (V : Int)] 34)).cell? ⟨w.heap.size, 3, none⟩ = some (.int .u32 (V : Int)) from (Blk.fresh w _ _).cell 3)
  have HSZ := Lib.hid (show w.heap.size < (w.alloc (.cells #[.int .i64 3, .int .i64 a, .int .i64 (n : Int), .int .u32 (V : Int)] 34)).heap.size from (Blk.fresh w _ _).lt)
  have HH := Lib.hid (h.only hnew (fun h => h) (fun h => h))
  have HR := Lib.hid (hR.only hnew (fun h => h))
  have HO := Lib.hid hnew
  have HPS := Lib.hid hps
  have HE := Lib.hid he
  clear h hR hnew hps he
  go_enter Try.func14, Try.ntmps14
  go_wp2_with fail
  have hx1 := HX1.out
  have hx2 := HX2.out
  have hx3 := HX3.out
  clear HX0 HX1 HX2 HX3
  generalize (w.alloc (.cells #[.int .i64 3, .int .i64 a, .int .i64 (n : Int), .int .u32 (V : Int)] 34)) = w1 at *
  generalize hBB : w.heap.size = B at *
  have HBB := Lib.hid hBB
  clear hBB
  have HSZ2 := Lib.hid HSZ.out
  go_loopw [12] (fun i wr => ∃ (j : Nat) (q1 : Nat) (iv : Int), j ≤ n ∧ i = .int .i64 iv ∧ iv + 1 = ((n - j : Nat) : Int) ∧ Rn wr g q1 (strE e V n j) ∧ (q1 = q ∨ w1.heap.size ≤ q1) ∧ Only (two g q) w1 wr) (fun i _ => (intOf i + 1).toNat)
  case atStart => exact ⟨0, q, _, Nat.zero_le _, rfl, by omega, HH.out, .inl rfl, Only.refl _ _⟩
  case round =>
    clear HH
    obtain ⟨j, q1, iv, hj, rfl, hiv, hp, hq, ho⟩ := hrel
    have hok := strE_ok HE.out V n j
    have tl := strE_len e V n j
    have hsz1 := HSZ2.out
    have hwr := ho.size
    have hq1B : B ≠ q1 := by rcases hq with h | h <;> omega
    have hq1b : b ≠ q1 := by rcases hq with h | h; rw [h]; exact hbq; omega
    have a2 := (ho.cell (p := ⟨B, 2, none⟩) hsz1 (not_two (by show B ≠ g; omega) (by show B ≠ q; omega))).trans hx2
    have a3 := (ho.cell (p := ⟨B, 3, none⟩) hsz1 (not_two (by show B ≠ g; omega) (by show B ≠ q; omega))).trans hx3
    by_cases hlt : j < n
    · obtain ⟨k, hk⟩ : ∃ k, k = n - 1 - j := ⟨_, rfl⟩
      obtain rfl : iv = (k : Int) := by omega
      have HIV := Lib.hid hiv
      have i0 : (k : Int) ≥ 0 := by omega
      have i1 : IntKind.i64.wrap ((k : Int) - 1) = (k : Int) - 1 := IntWalk.i64_in _ (by omega)
      have eb := bit_int V k
      have em : min k 32 = k := Nat.min_eq_left (by omega)
      have ew : IntKind.u64.wrap ((strE e V n j).r / 2 : Nat) = (((strE e V n j).r / 2 : Nat) : Int) := u64_in _ (by have := hok.2.1; omega)
      have e8 : IntKind.u64.wrap (k : Int) = (k : Int) := u64_in _ (by omega)
      have HST := Lib.hid (show (strE e V n j).one (bitOf V k) = strE e V n (j + 1) by rw [hk]; rfl)
      have hu := bitOf_le V k
      generalize strE e V n j = E at *
      obtain ⟨d0, d1, d2⟩ := hok
      have hfit := enIn_fits d2 (v := E.r / 2) (Nat.div_le_self _ _)
      have hh0 : 65536 ≤ E.r / 2 := by omega
      have hh1 : E.r / 2 < 4294967296 := by omega
      have hr2 : (E.r : Int) / 2 = ((E.r / 2 : Nat) : Int) := by omega
      obtain ⟨c1, f1⟩ := rn_cells hp
      have hone : E.one (bitOf V k) = if bitOf V k = 0 then En.even ⟨E.n, E.l, E.r / 2⟩ else En.even ⟨E.n + E.r / 2, E.l, E.r / 2⟩ := rfl
      have hN1 := rn_range (h := E.r / 2) hp
      generalize E.r / 2 = h at *
      have hl9 : E.l ≤ 999999100 := by omega
      have HO1 := Lib.hid ((Only.refl (two g q1) wr).setCell (p := ⟨g, 1, none⟩) (.inl (two_l g q1)) (.int .u64 (h : Int)))
      have HA3 := Lib.hid (((Only.refl (fun i => i = g) wr).setCell (p := ⟨g, 1, none⟩) (.inl rfl) (.int .u64 (h : Int))).cell (p := ⟨B, 3, none⟩) (show B < wr.heap.size by omega) (show ¬ B = g by omega) |>.trans a3)
      have hs1 : (wr.setCell ⟨g, 1, none⟩ (.int .u64 (h : Int))).heap.size = wr.heap.size := by simp [World.setCell]
      have HQr := Lib.hid hq
      have HOr := Lib.hid ho
      have HONE := Lib.hid hone
      have HN1 := Lib.hid hN1
      have HF := Lib.hid hfit
      have HL9 := Lib.hid hl9
      have HH1 := Lib.hid hh1
      have HH0 := Lib.hid hh0
      have HS1 := Lib.hid hs1
      have HWR := Lib.hid hwr
      have HHK := Lib.hid hk
      clear hp hq ho hone hN1 d0 d1 d2 tl hfit hl9 hh1 hh0 hs1 hiv hk hV hlen hl hL hwr
      by_cases hu0 : bitOf V k = 0
      · rw [hu0] at eb
        have KL := Lib.hid (rlevel_any HN1.out HH0.out (by show E.l ≤ _; have := HL9.out; omega))
        have HU0 := Lib.hid hu0
        clear hu0 hu
        go_wp2_with fail
        refine KL.out.mono ?_
        rintro e' w2 ⟨rfl, q2, hN, hq2, hO2⟩
        have HN := Lib.hid hN
        have HQ := Lib.hid hq2
        have HO2 := Lib.hid (HO1.out.trans hO2)
        clear hN hq2 hO2
        go_wp2_with fail
        go_roundw
        case rel =>
          have hE : strE e V n (j + 1) = En.even ⟨E.n, E.l, h⟩ := by rw [← HST.out, HONE.out, if_pos HU0.out]
          have HSX := HS1
          have hq3 : q2 = q ∨ w1.heap.size ≤ q2 := by
            have hw := HWR.out
            rcases HQ.out with h' | h'
            · rw [h']; exact HQr.out
            · right
              have := HSX.out
              omega
          exact ⟨j + 1, q2, (k : Int) - 1, by omega, rfl, by have := HIV.out; omega, by rw [hE]; exact HN.out, hq3, (HOr.out).trans' HO2.out (fun i hi => by
            rcases hi with hi | hi
            · exact .inl (.inl hi)
            · rcases HQr.out with h' | h'
              · left; right; omega
              · right; omega)⟩
        case measure => first | (simp [intOf]; done) | (simp [intOf]; omega)
      · have hu1 : bitOf V k = 1 := by omega
        rw [hu1] at eb
        have HU0 := Lib.hid hu0
        have KADD := Lib.hid (rn_add (v := h) HN1.out HH1.out HF.out (by show E.l ≤ _; have := HL9.out; omega))
        have hg1 := rn_cells HN1.out
        obtain ⟨g1, _⟩ := hg1
        clear hu0 hu hu1
        go_wp2_with fail
        refine KADD.out.mono ?_
        rintro e' w3 ⟨rfl, hN3, hO3⟩
        have KL := Lib.hid (rlevel_any hN3 HH0.out (by show E.l ≤ _; have := HL9.out; omega))
        have hsz3 := hO3.size
        have HSX := Lib.hid (show wr.heap.size ≤ w3.heap.size by have := HS1.out; omega)
        have HO3 := Lib.hid (HO1.out.trans (hO3.mono (fun i hi => .inr hi)))
        clear hN3 hO3 hsz3
        go_wp2_with fail
        refine KL.out.mono ?_
        rintro e' w2 ⟨rfl, q2, hN, hq2, hO2⟩
        have HN := Lib.hid hN
        have HQ := Lib.hid hq2
        have HO2 := Lib.hid (HO3.out.trans hO2)
        clear hN hq2 hO2
        go_wp2_with fail
        go_roundw
        case rel =>
          have hE : strE e V n (j + 1) = En.even ⟨E.n + h, E.l, h⟩ := by rw [← HST.out, HONE.out, if_neg HU0.out]
          have hq3 : q2 = q ∨ w1.heap.size ≤ q2 := by
            have hw := HWR.out
            rcases HQ.out with h' | h'
            · rw [h']; exact HQr.out
            · right
              have := HSX.out
              omega
          exact ⟨j + 1, q2, (k : Int) - 1, by omega, rfl, by have := HIV.out; omega, by rw [hE]; exact HN.out, hq3, (HOr.out).trans' HO2.out (fun i hi => by
            rcases hi with hi | hi
            · exact .inl (.inl hi)
            · rcases HQr.out with h' | h'
              · left; right; omega
              · right; omega)⟩
        case measure => first | (simp [intOf]; done) | (simp [intOf]; omega)
    · obtain rfl : j = n := by omega
      have i0 : ¬ iv ≥ 0 := by omega
      have HP := Lib.hid hp
      have HQ := Lib.hid hq
      have HO1 := Lib.hid ho
      clear hp hq ho hok tl
      go_wp2_with fail
      first | go_end0 | refine bodyPost_ret (results_none rfl _ _ _) rfl ?_
      refine ⟨rfl, q1, HP.out, ?_, HR.out.only HO1.out (not_two hbg hbq), (HO.out.mono (fun i hi => hi.elim) : Only (three g q b) w w1).trans (HO1.out.mono fun i hi => two_three hi)⟩
      rcases HQ.out with h | h
      · exact .inl h
      · right
        rw [HBB.out]
        omega

/-- Whatever is asked, the coder codes it. -/
theorem rask5_any {V : Nat} {Q : Qn} (h : Rn w g q e) (he : EnOk e) (hR : Row w b ps pc) (hps : PsOk ps) (hbg : b ≠ g) (hbq : b ≠ q) (hl : ps.length = 600) (hV : Q.v = (V : Int)) (hV2 : V < 4294967296) (hlen : e.l ≤ 999999000) (hq : RightQ Q) :
    Calls Try.prog 14 #[.pointer (some ⟨g, 0, none⟩), .slice (some ⟨b, 0, none⟩) 600 pc, .agg (qnArr Q)] w
      (AskEPost w g q b pc (askE ps e Q.k.toNat Q.a.toNat Q.n.toNat V).1 (askE ps e Q.k.toNat Q.a.toNat Q.n.toNat V).2) := by
  obtain ⟨k, a, n, v⟩ := Q
  unfold qnArr
  simp only [] at hV ⊢
  subst hV
  unfold askE
  rcases hq with ⟨rfl, h0, h1⟩ | ⟨hk, h0, h1, h2, h3⟩ | ⟨rfl, h0, h1⟩
  · obtain ⟨a, rfl⟩ := Int.eq_ofNat_of_zero_le h0
    exact rask5_bit h he hR hps hbg hbq hl rfl hV2 hlen (by simp only [] at h1; omega)
  · obtain ⟨a, rfl⟩ := Int.eq_ofNat_of_zero_le h0
    obtain ⟨n, rfl⟩ := Int.eq_ofNat_of_zero_le (show 0 ≤ n by simp only [] at h2; omega)
    simp only [] at h1 h2 h3 hk
    rcases hk with rfl | rfl
    · exact rask5_tree h he hR hps hbg hbq hl rfl hV2 hlen (by omega) (by omega)
    · exact rask5_rev h he hR hps hbg hbq hl rfl hV2 hlen (by omega) (by omega)
  · obtain ⟨n, rfl⟩ := Int.eq_ofNat_of_zero_le h0
    exact rask5_straight h he hR hps hbg hbq hl rfl hV2 hlen (by simp only [] at h1; omega)
end
end Go.Proofs.Ytokkaidepahepaa
