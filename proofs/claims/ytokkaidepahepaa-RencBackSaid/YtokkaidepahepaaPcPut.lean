/-
  A question is coded by the program's coder.
-/
import Derived.Test.YtokkaidepahepaaPcTree
import Derived.Test.YtokkaidepahepaaRdRight
import Derived.StillTailTactics
namespace Go.Proofs.Ytokkaidepahepaa
open Go.RowKit

section
variable {w : World} {g b pc : Nat} {G : Option Nat} {e : En} {ps : List Nat}

theorem cod_box {w0 w w1 : World} {ps : List Nat} {x : Ending} {e' : En} (hO : Only (fun _ => False) w w0) (h : CodPost w0 g G b pc ps e' x w1) : CodPost w g G b pc ps e' x w1 := by
  obtain ⟨rfl, G', hP, hN, hR, hO2⟩ := h
  exact ⟨rfl, G', hP, fun i hi => (hN i hi).imp id (fun h => Nat.le_trans hO.size h), hR, (hO.mono (fun _ h => h.elim)).trans hO2⟩

set_option maxHeartbeats 2000000 in
theorem put_bit {a V L : Nat} {n : Int} (hL : L = 600) (h : Pn w g G e) (he : EnOk e) (hR : Row w b ps pc) (hps : PsOk ps) (hl : ps.length = 600) (hbg : b ≠ g) (hbG : G ≠ some b) (ha : a < 600) (hV : V < 4294967296) (hlen : e.l ≤ 999999900) :
    Calls Try.prog 13 #[.pointer (some ⟨g, 0, none⟩), .slice (some ⟨b, 0, none⟩) L pc, .agg #[.int .i64 0, .int .i64 (a : Int), .int .i64 n, .int .u32 (V : Int)]] w
      (CodPost w g G b pc (ps.set a (upOf (ps.getD a 0) (V % 2))) (e.bit (ps.getD a 0) (V % 2))) := by
  have hOF := (Only.refl (fun _ => False) w).alloc (.cells #[.int .i64 0, .int .i64 (a : Int), .int .i64 n, .int .u32 (V : Int)] 34)
  have HX1 := Lib.hid (show (w.alloc (.cells #[.int .i64 0, .int .i64 (a : Int), .int .i64 n, .int .u32 (V : Int)] 34)).cell? ⟨w.heap.size, 1, none⟩ = some (.int .i64 (a : Int)) from (Blk.fresh w _ _).cell 1)
  have HX2 := Lib.hid (show (w.alloc (.cells #[.int .i64 0, .int .i64 (a : Int), .int .i64 n, .int .u32 (V : Int)] 34)).cell? ⟨w.heap.size, 2, none⟩ = some (.int .i64 n) from (Blk.fresh w _ _).cell 2)
  have HX3 := Lib.hid (show (w.alloc (.cells #[.int .i64 0, .int .i64 (a : Int), .int .i64 n, .int .u32 (V : Int)] 34)).cell? ⟨w.heap.size, 3, none⟩ = some (.int .u32 (V : Int)) from (Blk.fresh w _ _).cell 3)
  have HSZ := Lib.hid (show w.heap.size ≤ (w.alloc (.cells #[.int .i64 0, .int .i64 (a : Int), .int .i64 n, .int .u32 (V : Int)] 34)).heap.size from hOF.size)
  have HO := Lib.hid hOF
  have hcap := hR.cap
  rw [hl] at hcap
  have hP0 := h.only hOF (fun h => h) (fun _ _ h => h)
  have hR0 := hR.only hOF (fun h => h)
  have HP0 := Lib.hid hP0
  have HR0 := Lib.hid hR0
  have K := Lib.hid (fun m => pbit_any (i := a) (bit := V % 2) (hP0.drewN m) he (hR0.drewN m) (by omega) (getD_ok hps (show a < ps.length by omega)) hbg hbG (by omega) (by omega))
  obtain ⟨u, hu⟩ : ∃ u, u = V % 2 := ⟨_, rfl⟩
  rw [← hu] at K
  rw [← hu]
  have e1 : (V : Int).tmod 2 = (u : Int) := by rw [Int.tmod_eq_emod_of_nonneg (by omega)]; omega
  have e1' : (V : Int) % 2 = (u : Int) := by omega
  have e2 : IntKind.i64.wrap (u : Int) = (u : Int) := IntWalk.i64_in _ (by omega)
  have ha1 : (a : Int) < (L : Int) := by omega
  have ha0 : (0 : Int) ≤ (a : Int) := by omega
  clear hu hl hL ha
  clear h he hR hps hOF hcap hP0 hR0 hbG hbg hV hlen
  go_enter Try.func13, Try.ntmps13
  go_wp2_with fail
  have hx1 := HX1.out
  have hx2 := HX2.out
  have hx3 := HX3.out
  clear HX1 HX2 HX3
  generalize (w.alloc (.cells #[.int .i64 0, .int .i64 (a : Int), .int .i64 n, .int .u32 (V : Int)] 34)) = w0 at *
  generalize w.heap.size = B at *
  go_still_tail 9, (by kernel_rfl)
  change wpList _ _ _ _ _ w0.drew
  go_wp2_with fail
  refine (K.out 1).mono ?_
  intro x w1 hc
  have HC := Lib.hid (cod_box (HO.out.drewN 1) hc)
  obtain ⟨rfl, _⟩ := hc
  clear K HO
  go_wp2_with fail
  first | go_end0 | refine bodyPost_ret (results_none rfl _ _ _) rfl ?_
  exact HC.out

set_option maxHeartbeats 2000000 in
theorem put_tree {a n V : Nat} (h : Pn w g G e) (he : EnOk e) (hR : Row w b ps pc) (hps : PsOk ps) (hl : ps.length = 600) (hbg : b ≠ g) (hbG : G ≠ some b) (ha : a < 340) (hn : n ≤ 8) (hV : V < 4294967296) (hlen : e.l ≤ 999999900) :
    Calls Try.prog 13 #[.pointer (some ⟨g, 0, none⟩), .slice (some ⟨b, 0, none⟩) 600 pc, .agg #[.int .i64 1, .int .i64 (a : Int), .int .i64 (n : Int), .int .u32 (V : Int)]] w
      (CodPost w g G b pc (treE (topBits V n) a ps e n).ps (treE (topBits V n) a ps e n).e) := by
  have hOF := (Only.refl (fun _ => False) w).alloc (.cells #[.int .i64 1, .int .i64 (a : Int), .int .i64 (n : Int), .int .u32 (V : Int)] 34)
  have HX1 := Lib.hid (show (w.alloc (.cells #[.int .i64 1, .int .i64 (a : Int), .int .i64 (n : Int), .int .u32 (V : Int)] 34)).cell? ⟨w.heap.size, 1, none⟩ = some (.int .i64 (a : Int)) from (Blk.fresh w _ _).cell 1)
  have HX2 := Lib.hid (show (w.alloc (.cells #[.int .i64 1, .int .i64 (a : Int), .int .i64 (n : Int), .int .u32 (V : Int)] 34)).cell? ⟨w.heap.size, 2, none⟩ = some (.int .i64 (n : Int)) from (Blk.fresh w _ _).cell 2)
  have HX3 := Lib.hid (show (w.alloc (.cells #[.int .i64 1, .int .i64 (a : Int), .int .i64 (n : Int), .int .u32 (V : Int)] 34)).cell? ⟨w.heap.size, 3, none⟩ = some (.int .u32 (V : Int)) from (Blk.fresh w _ _).cell 3)
  have HSZ := Lib.hid (show w.heap.size ≤ (w.alloc (.cells #[.int .i64 1, .int .i64 (a : Int), .int .i64 (n : Int), .int .u32 (V : Int)] 34)).heap.size from hOF.size)
  have HO := Lib.hid hOF
  have hcap := hR.cap
  rw [hl] at hcap
  have hP0 := h.only hOF (fun h => h) (fun _ _ h => h)
  have hR0 := hR.only hOF (fun h => h)
  have HP0 := Lib.hid hP0
  have HR0 := Lib.hid hR0
  have h8 := pow8 hn
  have K := Lib.hid (fun cap m => ptree_any (a := a) (len := 600 - a) (cap := cap) (hP0.drewN m) he (hR0.drewN m) hps hbg hbG (by omega) (by omega) hn hV hlen)
  have ha0 : (0 : Int) ≤ (a : Int) := by omega
  have hne : ¬ pc = a := by omega
  have ha1 : (a : Int) ≤ (600 : Int) := by omega
  have hc6 : (600 : Int) ≤ (pc : Int) := by omega
  clear h8 hl
  clear h he hR hps hOF hcap hP0 hR0 hbG hbg hV hlen
  go_enter Try.func13, Try.ntmps13
  go_wp2_with fail
  have hx1 := HX1.out
  have hx2 := HX2.out
  have hx3 := HX3.out
  clear HX1 HX2 HX3
  generalize (w.alloc (.cells #[.int .i64 1, .int .i64 (a : Int), .int .i64 (n : Int), .int .u32 (V : Int)] 34)) = w0 at *
  generalize w.heap.size = B at *
  go_still_tail 9, (by kernel_rfl)
  change wpList _ _ _ _ _ w0.drew
  go_wp2_with fail
  refine (K.out _ 1).mono ?_
  intro x w1 hc
  have HC := Lib.hid (cod_box (HO.out.drewN 1) hc)
  obtain ⟨rfl, _⟩ := hc
  clear K HO
  go_wp2_with fail
  first | go_end0 | refine bodyPost_ret (results_none rfl _ _ _) rfl ?_
  exact HC.out

set_option maxHeartbeats 2000000 in
theorem put_rev {a n V : Nat} (h : Pn w g G e) (he : EnOk e) (hR : Row w b ps pc) (hps : PsOk ps) (hl : ps.length = 600) (hbg : b ≠ g) (hbG : G ≠ some b) (ha : a < 340) (hn : n ≤ 8) (hV : V < 4294967296) (hlen : e.l ≤ 999999900) :
    Calls Try.prog 13 #[.pointer (some ⟨g, 0, none⟩), .slice (some ⟨b, 0, none⟩) 600 pc, .agg #[.int .i64 2, .int .i64 (a : Int), .int .i64 (n : Int), .int .u32 (V : Int)]] w
      (CodPost w g G b pc (treE (bitOf V) a ps e n).ps (treE (bitOf V) a ps e n).e) := by
  have hOF := (Only.refl (fun _ => False) w).alloc (.cells #[.int .i64 2, .int .i64 (a : Int), .int .i64 (n : Int), .int .u32 (V : Int)] 34)
  have HX1 := Lib.hid (show (w.alloc (.cells #[.int .i64 2, .int .i64 (a : Int), .int .i64 (n : Int), .int .u32 (V : Int)] 34)).cell? ⟨w.heap.size, 1, none⟩ = some (.int .i64 (a : Int)) from (Blk.fresh w _ _).cell 1)
  have HX2 := Lib.hid (show (w.alloc (.cells #[.int .i64 2, .int .i64 (a : Int), .int .i64 (n : Int), .int .u32 (V : Int)] 34)).cell? ⟨w.heap.size, 2, none⟩ = some (.int .i64 (n : Int)) from (Blk.fresh w _ _).cell 2)
  have HX3 := Lib.hid (show (w.alloc (.cells #[.int .i64 2, .int .i64 (a : Int), .int .i64 (n : Int), .int .u32 (V : Int)] 34)).cell? ⟨w.heap.size, 3, none⟩ = some (.int .u32 (V : Int)) from (Blk.fresh w _ _).cell 3)
  have HSZ := Lib.hid (show w.heap.size ≤ (w.alloc (.cells #[.int .i64 2, .int .i64 (a : Int), .int .i64 (n : Int), .int .u32 (V : Int)] 34)).heap.size from hOF.size)
  have HO := Lib.hid hOF
  have hcap := hR.cap
  rw [hl] at hcap
  have hP0 := h.only hOF (fun h => h) (fun _ _ h => h)
  have hR0 := hR.only hOF (fun h => h)
  have HP0 := Lib.hid hP0
  have HR0 := Lib.hid hR0
  have h8 := pow8 hn
  have K := Lib.hid (fun cap m => prev_any (a := a) (len := 600 - a) (cap := cap) (hP0.drewN m) he (hR0.drewN m) hps hbg hbG (by omega) (by omega) hn hV hlen)
  have ha0 : (0 : Int) ≤ (a : Int) := by omega
  have hne : ¬ pc = a := by omega
  have ha1 : (a : Int) ≤ (600 : Int) := by omega
  have hc6 : (600 : Int) ≤ (pc : Int) := by omega
  clear h8 hl
  clear h he hR hps hOF hcap hP0 hR0 hbG hbg hV hlen
  go_enter Try.func13, Try.ntmps13
  go_wp2_with fail
  have hx1 := HX1.out
  have hx2 := HX2.out
  have hx3 := HX3.out
  clear HX1 HX2 HX3
  generalize (w.alloc (.cells #[.int .i64 2, .int .i64 (a : Int), .int .i64 (n : Int), .int .u32 (V : Int)] 34)) = w0 at *
  generalize w.heap.size = B at *
  go_still_tail 9, (by kernel_rfl)
  change wpList _ _ _ _ _ w0.drew
  go_wp2_with fail
  refine (K.out _ 1).mono ?_
  intro x w1 hc
  have HC := Lib.hid (cod_box (HO.out.drewN 1) hc)
  obtain ⟨rfl, _⟩ := hc
  clear K HO
  go_wp2_with fail
  first | go_end0 | refine bodyPost_ret (results_none rfl _ _ _) rfl ?_
  exact HC.out

set_option maxHeartbeats 2000000 in
theorem put_straight {n V : Nat} {a : Int} (h : Pn w g G e) (he : EnOk e) (hR : Row w b ps pc) (hps : PsOk ps) (hl : ps.length = 600) (hbg : b ≠ g) (hbG : G ≠ some b) (hn : n ≤ 32) (hV : V < 4294967296) (hlen : e.l ≤ 999999900) :
    Calls Try.prog 13 #[.pointer (some ⟨g, 0, none⟩), .slice (some ⟨b, 0, none⟩) 600 pc, .agg #[.int .i64 3, .int .i64 a, .int .i64 (n : Int), .int .u32 (V : Int)]] w
      (CodPost w g G b pc ps (strE e V n n)) := by
  have hOF := (Only.refl (fun _ => False) w).alloc (.cells #[.int .i64 3, .int .i64 a, .int .i64 (n : Int), .int .u32 (V : Int)] 34)
  have HX1 := Lib.hid (show (w.alloc (.cells #[.int .i64 3, .int .i64 a, .int .i64 (n : Int), .int .u32 (V : Int)] 34)).cell? ⟨w.heap.size, 1, none⟩ = some (.int .i64 a) from (Blk.fresh w _ _).cell 1)
  have HX2 := Lib.hid (show (w.alloc (.cells #[.int .i64 3, .int .i64 a, .int .i64 (n : Int), .int .u32 (V : Int)] 34)).cell? ⟨w.heap.size, 2, none⟩ = some (.int .i64 (n : Int)) from (Blk.fresh w _ _).cell 2)
  have HX3 := Lib.hid (show (w.alloc (.cells #[.int .i64 3, .int .i64 a, .int .i64 (n : Int), .int .u32 (V : Int)] 34)).cell? ⟨w.heap.size, 3, none⟩ = some (.int .u32 (V : Int)) from (Blk.fresh w _ _).cell 3)
  have HSZ := Lib.hid (show w.heap.size ≤ (w.alloc (.cells #[.int .i64 3, .int .i64 a, .int .i64 (n : Int), .int .u32 (V : Int)] 34)).heap.size from hOF.size)
  have HO := Lib.hid hOF
  have hcap := hR.cap
  rw [hl] at hcap
  have hP0 := h.only hOF (fun h => h) (fun _ _ h => h)
  have hR0 := hR.only hOF (fun h => h)
  have HP0 := Lib.hid hP0
  have HR0 := Lib.hid hR0
  have K := Lib.hid (pstraight_any hP0 he hn hV hlen)
  have HBG := Lib.hid hbg
  have HBG2 := Lib.hid hbG
  clear hl
  clear h he hR hps hOF hcap hP0 hR0 hbG hbg hV hlen
  go_enter Try.func13, Try.ntmps13
  go_wp2_with fail
  have hx1 := HX1.out
  have hx2 := HX2.out
  have hx3 := HX3.out
  clear HX1 HX2 HX3
  generalize (w.alloc (.cells #[.int .i64 3, .int .i64 a, .int .i64 (n : Int), .int .u32 (V : Int)] 34)) = w0 at *
  generalize w.heap.size = B at *
  go_wp2_with fail
  refine K.out.mono ?_
  intro x w1 hc
  have HC := Lib.hid (cod_box (b := b) (pc := pc) (ps := ps) HO.out (by
    obtain ⟨rfl, G', hP, hN, hO2⟩ := hc
    refine ⟨rfl, G', hP, hN, HR0.out.only hO2 ?_, hO2.mono fun i hi => qset_of hi⟩
    intro h
    rcases h with h | h
    · exact HBG.out h
    · exact HBG2.out h))
  obtain ⟨rfl, _⟩ := hc
  clear K HO
  go_wp2_with fail
  first | go_end0 | refine bodyPost_ret (results_none rfl _ _ _) rfl ?_
  exact HC.out
end

/-- Whatever may be asked is coded. -/
theorem put_any {w : World} {g b pc : Nat} {G : Option Nat} {e : En} {ps : List Nat} {q : Qn} (h : Pn w g G e) (he : EnOk e) (hR : Row w b ps pc) (hps : PsOk ps) (hl : ps.length = 600) (hbg : b ≠ g) (hbG : G ≠ some b) (hq : RightQ q) (hv : 0 ≤ q.v ∧ q.v < 4294967296) (hlen : e.l ≤ 999999900) :
    Calls Try.prog 13 #[.pointer (some ⟨g, 0, none⟩), .slice (some ⟨b, 0, none⟩) 600 pc, .agg (qnArr q)] w
      (CodPost w g G b pc (askE ps e q.k.toNat q.a.toNat q.n.toNat q.v.toNat).1 (askE ps e q.k.toNat q.a.toNat q.n.toNat q.v.toNat).2) := by
  obtain ⟨k, a, n, v⟩ := q
  obtain ⟨v0, v1⟩ := hv
  unfold qnArr
  simp only [] at v0 v1 ⊢
  obtain ⟨V, rfl⟩ := Int.eq_ofNat_of_zero_le v0
  have hV : V < 4294967296 := by omega
  rcases hq with ⟨rfl, h0, h1⟩ | ⟨hk, h0, h1, h2, h3⟩ | ⟨rfl, h0, h1⟩
  · obtain ⟨a, rfl⟩ := Int.eq_ofNat_of_zero_le h0
    exact put_bit rfl h he hR hps hl hbg hbG (by simp only [] at h1; omega) hV hlen
  · obtain ⟨a, rfl⟩ := Int.eq_ofNat_of_zero_le h0
    obtain ⟨n, rfl⟩ := Int.eq_ofNat_of_zero_le (show 0 ≤ n by simp only [] at h2; omega)
    simp only [] at h1 h2 h3 hk
    rcases hk with rfl | rfl
    · exact put_tree h he hR hps hl hbg hbG (by omega) (by omega) hV hlen
    · exact put_rev h he hR hps hl hbg hbG (by omega) (by omega) hV hlen
  · obtain ⟨n, rfl⟩ := Int.eq_ofNat_of_zero_le h0
    exact put_straight h he hR hps hl hbg hbG (by simp only [] at h1; omega) hV hlen
end Go.Proofs.Ytokkaidepahepaa
