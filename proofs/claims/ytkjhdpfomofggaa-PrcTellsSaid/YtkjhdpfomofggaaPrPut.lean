/-
  The reference's coder is handed a share.
-/
import Derived.Test.YtkjhdpfomofggaaPrEnc
import Derived.Test.YtkjhdpfomofggaaPrRight
import Derived.StillTailTactics
namespace Go.Proofs.Ytkjhdpfomofggaa
open Go.RowKit

def duo (g q : Nat) : Nat → Prop := fun i => i = g ∨ i = q

/-- evened out, f bytes at most -/
def En.evs (e : En) : Nat → En
  | 0 => e
  | f + 1 => (e.even).evs f
theorem evs_high {e : En} (h : ¬ e.r < 16777216) : ∀ f, e.evs f = e
  | 0 => rfl
  | f + 1 => by
    have he : e.even = e := by unfold En.even; rw [if_neg h]
    show (e.even).evs f = e
    rw [he]
    exact evs_high h f
theorem evs_lev3 (e : En) : e.evs 3 = e.lev3 := rfl

/-- on the way to T -/
def EvRel (w wr : World) (g q : Nat) (T : En) : Prop :=
  ∃ q' e f, Rn wr g q' e ∧ e.evs f = T ∧ 16777216 ≤ e.r * 256 ^ f ∧ 1 ≤ e.r ∧ e.r < 4294967296 ∧ e.l + f ≤ 1000000000 ∧ (q' = q ∨ w.heap.size ≤ q') ∧ Only (duo g q) w wr
def PutPost (w : World) (g q : Nat) (T : En) (x : Ending) (w' : World) : Prop :=
  x = .returned (.tuple #[]) ∧ ∃ q', Rn w' g q' T ∧ (q' = q ∨ w.heap.size ≤ q') ∧ Only (duo g q) w w'
def rangeNat (w : World) (g : Nat) : Nat := match w.cell? ⟨g, 1, none⟩ with
  | some (.int _ n) => n.toNat
  | _ => 0

set_option maxHeartbeats 2000000 in
theorem rnew6_any (w : World) : Calls Try.prog 23 #[] w fun e w' => e = .returned (.pointer (some ⟨w.heap.size + 1, 0, none⟩)) ∧ Rn w' (w.heap.size + 1) w.heap.size En.new ∧ Below w.heap.size w w' := by
  obtain ⟨i, hi, hz0, hz1, hz2⟩ := info_parts info_u8
  have hmk : ∀ w, (Instr.makeSlice 22 (.int .i64 5) (.int .i64 5)).run Try.prog w = .ok (.slice (some ⟨w.heap.size, 0, none⟩) 5 5) (w.alloc (.cells #[.int .u8 0, .int .u8 0, .int .u8 0, .int .u8 0, .int .u8 0] 5)) := fun _ => by kernel_rfl
  have hsz : (w.alloc (.cells #[.int .u8 0, .int .u8 0, .int .u8 0, .int .u8 0, .int .u8 0] 5)).heap.size = w.heap.size + 1 := by simp
  have HY := Lib.hid (show Byt (w.alloc (.cells #[.int .u8 0, .int .u8 0, .int .u8 0, .int .u8 0, .int .u8 0] 5)) w.heap.size 5 [0, 0, 0, 0, 0] from
    ⟨by simp [bv], .inr ⟨w.heap.size, 5, #[.int .u8 0, .int .u8 0, .int .u8 0, .int .u8 0, .int .u8 0], rfl, Nat.zero_le _, heap_alloc_new w _, by simp, by unfold maxLen; omega, by simp, by simp [bv]⟩⟩)
  have HSZ := Lib.hid hsz
  have HB := Lib.hid ((Below.refl w.heap.size w).alloc (Nat.le_refl _) (.cells #[.int .u8 0, .int .u8 0, .int .u8 0, .int .u8 0, .int .u8 0] 5))
  clear hsz
  go_enter Try.func23, Try.ntmps23
  go_wp2_with fail
  go_ret
  have hsz := HSZ.out
  generalize (w.alloc (.cells #[.int .u8 0, .int .u8 0, .int .u8 0, .int .u8 0, .int .u8 0] 5)) = w1 at *
  refine ⟨rfl, ⟨5, [0, 0, 0, 0, 0], ?_, HY.out.only ((Only.refl (fun _ => False) w1).alloc _) (fun h => h), rfl, rfl, by omega⟩, HB.out.alloc (by omega) _⟩
  have := Blk.fresh w1 50 (rnCells w.heap.size 5 5 4294967295)
  rw [hsz] at this
  exact this

theorem duo_box {w w0 w1 : World} {g q q1 : Nat} (h0 : Only (fun _ => False) w w0) (h : Only (duo g q) w0 w1) : Only (duo g q) w w1 := (h0.mono (fun _ h => h.elim)).trans h
theorem Rn.span {w : World} {g q R : Nat} {e : En} (h : Rn w g q e) : Rn (w.setCell ⟨g, 1, none⟩ (.int .u64 (R : Int))) g q ⟨e.n, e.l, R⟩ := by
  obtain ⟨c, bs, hB, hY, hn, hl, hqg⟩ := h
  exact ⟨c, bs, hB.put 1 (.int .u64 (R : Int)), hY.only ((Only.refl (fun j => j = g) w).setCell (p := ⟨g, 1, none⟩) (.inl rfl) _) hqg, hn, hl, hqg⟩
theorem Rn.cell1 {w : World} {g q : Nat} {e : En} (h : Rn w g q e) : w.cell? ⟨g, 1, none⟩ = some (.int .u64 (e.r : Int)) ∧ w.frozen? ⟨g, 1, none⟩ = false := by
  obtain ⟨c, bs, hB, _⟩ := h
  exact ⟨hB.cell 1, hB.free 1⟩
/-- an addition, as a contract on the state -/
theorem radd_any {w : World} {g q v : Nat} {e : En} (h : Rn w g q e) (hv : v < 4294967296) (hfit : e.n + v < 256 ^ e.l) (hlen : e.l ≤ 1000000000) :
    Calls Try.prog 38 #[.pointer (some ⟨g, 0, none⟩), .int .u64 (v : Int)] w fun x w' => x = .returned (.tuple #[]) ∧ Rn w' g q ⟨e.n + v, e.l, e.r⟩ ∧ Only (fun i => i = q) w w' := by
  obtain ⟨c, bs, hB, hY, hn, hl, hqg⟩ := h
  refine (add_any (v := v) (N := e.n + v) hB hY hqg hv (by rw [hn]) (by rw [hl]; exact hfit) (by omega)).mono ?_
  rintro x w' ⟨rfl, cs, hB1, hY1, hn1, hl1, hO⟩
  refine ⟨rfl, ⟨c, cs, by rw [hl1]; exact hB1, hY1, hn1, hl1.trans hl, hqg⟩, hO⟩

section
variable {w : World} {g q : Nat} {e : En}

set_option maxHeartbeats 8000000 in
theorem rput_share {s z t : Nat} (h : Rn w g q e) (he : EnOk e) (hz : 1 ≤ z) (hs : s + z ≤ t) (ht : t ≤ 1048576) (hlen : e.l ≤ 999999900) :
    Calls Try.prog 25 #[.pointer (some ⟨g, 0, none⟩), .agg #[.int .i64 0, .int .u32 (s : Int), .int .u32 (z : Int), .int .u32 (t : Int)]] w (PutPost w g q (putE e 0 s z t)) := by
  obtain ⟨i, hi, hz0, hz1, hz2⟩ := info_parts info_u8
  obtain ⟨a1, a2, a3⟩ := share_in he.1 hz hs ht
  have hr := he.2.1
  obtain ⟨R, hR⟩ : ∃ R, R = e.r / t := ⟨_, rfl⟩
  have hRle : R ≤ e.r := by rw [hR]; exact Nat.div_le_self _ _
  obtain ⟨p, hp⟩ : ∃ p, p = s * R := ⟨_, rfl⟩
  obtain ⟨S, hS⟩ : ∃ S, S = R * z := ⟨_, rfl⟩
  obtain ⟨T, hT⟩ : ∃ T, T = putE e 0 s z t := ⟨_, rfl⟩
  have hT2 : (⟨e.n + p, e.l, S⟩ : En).evs 3 = T := by rw [hT, hp, hS, hR]; unfold putE; rw [if_pos rfl]; rfl
  rw [← hR] at a1 a2 a3
  rw [← hp] at a3
  rw [← hS] at a2 a3
  rw [← hT]
  have e0 : IntKind.u64.wrap (t : Int) = (t : Int) := u64_in _ (by omega)
  have e1 : (e.r : Int) / (t : Int) = (R : Int) := by rw [hR]; exact (Int.natCast_ediv e.r t).symm
  have e2 : (e.r : Int).tdiv (t : Int) = (R : Int) := by rw [Int.tdiv_eq_ediv_of_nonneg (by omega)]; exact e1
  have e3 : IntKind.u64.wrap (R : Int) = (R : Int) := u64_in _ (by omega)
  have t0 : ¬ (t : Int) = 0 := by omega
  have e4 : IntKind.u64.wrap (s : Int) = (s : Int) := u64_in _ (by omega)
  have e5 : IntKind.u64.wrap ((s : Int) * (R : Int)) = (p : Int) := by rw [← Int.natCast_mul, ← hp]; exact u64_in _ (by omega)
  have e6 : IntKind.u64.wrap (z : Int) = (z : Int) := u64_in _ (by omega)
  have e7 : IntKind.u64.wrap ((R : Int) * (z : Int)) = (S : Int) := by rw [← Int.natCast_mul, ← hS]; exact u64_in _ (by omega)
  have hfit : e.n + p < 256 ^ e.l := enIn_fits he.2.2 (by omega)
  have HFIT := Lib.hid hfit
  have HNUM := Lib.hid (show p < 4294967296 ∧ e.l ≤ 999999900 ∧ 16 ≤ S ∧ S < 4294967296 by omega)
  have HT2 := Lib.hid hT2
  have hlt := h.lt
  have hO0 := (Only.refl (fun _ => False) w).alloc (.cells #[.int .i64 0, .int .u32 (s : Int), .int .u32 (z : Int), .int .u32 (t : Int)] 33)
  have HX := Lib.hid (show Blk (w.alloc (.cells #[.int .i64 0, .int .u32 (s : Int), .int .u32 (z : Int), .int .u32 (t : Int)] 33)) w.heap.size 33 #[.int .i64 0, .int .u32 (s : Int), .int .u32 (z : Int), .int .u32 (t : Int)] from Blk.fresh w _ _)
  have HH := Lib.hid (h.only hO0 (fun h => h) (fun h => h))
  have HO0 := Lib.hid hO0
  have HLT := Lib.hid hlt
  clear hRle h he hz hs ht hlen a1 a2 a3 hr hR hp hS hT hT2 hfit hlt hO0
  go_enter Try.func25, Try.ntmps25
  go_wp2_with fail
  generalize (w.alloc (.cells #[.int .i64 0, .int .u32 (s : Int), .int .u32 (z : Int), .int .u32 (t : Int)] 33)) = w0 at *
  generalize hBB : w.heap.size = B at *
  have HBB := Lib.hid hBB
  clear hBB
  have b3 : w0.cell? ⟨B, 3, none⟩ = some (.int .u32 (t : Int)) := HX.out.cell 3
  obtain ⟨d1, f1⟩ := HH.out.cell1
  go_region
  all_goals go_wp2_with fail
  have hgB : B ≠ g := by have := HLT.out; omega
  have hqB : B ≠ q := by have := HLT.out; omega
  have hH1 : Rn (w0.setCell ⟨g, 1, none⟩ (.int .u64 (R : Int))).drew g q ⟨e.n, e.l, R⟩ := HH.out.span (R := R)
  have hX1 : Blk (w0.setCell ⟨g, 1, none⟩ (.int .u64 (R : Int))).drew B 33 #[.int .i64 0, .int .u32 (s : Int), .int .u32 (z : Int), .int .u32 (t : Int)] := (HX.out.far hgB _).drewN 1
  have hO1 : Only (duo g q) w (w0.setCell ⟨g, 1, none⟩ (.int .u64 (R : Int))).drew := ((HO0.out.mono (fun _ h => h.elim)).setCell (p := ⟨g, 1, none⟩) (.inl (.inl rfl)) _).drewN 1
  have HH1 := Lib.hid hH1
  have HX1 := Lib.hid hX1
  have HO1 := Lib.hid hO1
  clear hH1 hX1 hO1 HH HX HO0 b3 d1 f1
  generalize (w0.setCell ⟨g, 1, none⟩ (.int .u64 (R : Int))).drew = w1 at *
  have b1 : w1.cell? ⟨B, 1, none⟩ = some (.int .u32 (s : Int)) := HX1.out.cell 1
  obtain ⟨d1, f1⟩ := HH1.out.cell1
  dsimp only at d1
  have K := Lib.hid (radd_any (v := p) (HH1.out.drewN 1) HNUM.out.1 HFIT.out (by have := HNUM.out; show e.l ≤ _; omega))
  go_still_tail 9, (by kernel_rfl)
  change wpList _ _ _ _ _ w1.drew
  go_wp2_with fail
  refine K.out.mono ?_
  rintro x w2 ⟨rfl, hH2, hO2⟩
  have HH2 := Lib.hid hH2
  have HX2 := Lib.hid ((HX1.out.drewN 1).only hO2 hqB)
  have HO2 := Lib.hid (show Only (duo g q) w w2 from (HO1.out.drewN 1).trans (hO2.mono fun i hi => .inr hi))
  clear hH2 hO2 HH1 HX1 HO1 K b1 d1 f1
  have b2 : w2.cell? ⟨B, 2, none⟩ = some (.int .u32 (z : Int)) := HX2.out.cell 2
  obtain ⟨d1, f1⟩ := HH2.out.cell1
  dsimp only at d1
  go_wp2_with fail
  go_region
  have hH3 : Rn (w2.setCell ⟨g, 1, none⟩ (.int .u64 (S : Int))).drew g q ⟨e.n + p, e.l, S⟩ := HH2.out.span (R := S)
  have HREL0 := Lib.hid (show EvRel w (w2.setCell ⟨g, 1, none⟩ (.int .u64 (S : Int))).drew g q T from
    ⟨q, ⟨e.n + p, e.l, S⟩, 3, hH3, HT2.out, by have := HNUM.out; show 16777216 ≤ S * 256 ^ 3; omega, by have := HNUM.out; show 1 ≤ S; omega, HNUM.out.2.2.2, by have := HNUM.out; show e.l + 3 ≤ _; omega, .inl rfl, (HO2.out.setCell (p := ⟨g, 1, none⟩) (.inl (.inl rfl)) _).drewN 1⟩)
  clear hH3 HH2 HX2 HO2 b2 d1 f1 HNUM HFIT HT2 HLT
  go_wp2_with fail
  go_loopw [] (fun wr => EvRel w wr g q T) (fun wr => 4294967296 - rangeNat wr g)
  case atStart => exact HREL0.out
  case round =>
    clear HREL0
    obtain ⟨q1, e1, f, hRn, hev, hf, hr0, hr1, hlen, hq, hO⟩ := hrel
    obtain ⟨c, bs, hB, hY, hn, hl, hqg⟩ := hRn
    have d1 : wr.cell? ⟨g, 1, none⟩ = some (.int .u64 (e1.r : Int)) := hB.cell 1
    have d0 : wr.cell? ⟨g, 0, none⟩ = some (.slice (some ⟨q1, 0, none⟩) bs.length c) := hB.cell 0
    have z1 : wr.frozen? ⟨g, 1, none⟩ = false := hB.free 1
    have z0 : wr.frozen? ⟨g, 0, none⟩ = false := hB.free 0
    obtain ⟨ri, hri⟩ : ∃ ri : Int, ri = (e1.r : Int) := ⟨_, rfl⟩
    rw [← hri] at d1
    by_cases hlow : e1.r < 16777216
    · obtain ⟨f, rfl⟩ : ∃ f', f = f' + 1 := by
        cases f with
        | zero => rw [Nat.pow_zero, Nat.mul_one] at hf; omega
        | succ f => exact ⟨f, rfl⟩
      have hlo : ri < 16777216 := by omega
      obtain ⟨R, hR⟩ : ∃ R, R = e1.r * 256 := ⟨_, rfl⟩
      obtain ⟨X, hX⟩ : ∃ X : Int, X = (R : Int) := ⟨_, rfl⟩
      have x1 : IntKind.u64.wrap (ri * 256) = X := by rw [hX, hR, hri, show (e1.r : Int) * 256 = ((e1.r * 256 : Nat) : Int) by omega]; exact u64_in _ (by omega)
      have he : e1.even = ⟨be bs * 256, bs.length + 1, R⟩ := by unfold En.even; rw [if_pos hlow, hn, hl, hR]
      have hev2 : (⟨be bs * 256, bs.length + 1, R⟩ : En).evs f = T := by rw [← he]; exact hev
      have hf2 : 16777216 ≤ R * 256 ^ f := by
        rw [Nat.pow_succ, Nat.mul_comm (256 ^ f), ← Nat.mul_assoc] at hf
        rw [hR]; exact hf
      have HM := Lib.hid (show e1.r < R ∧ R < 4294967296 ∧ bs.length + 1 + f ≤ 1000000000 by omega)
      have HRI := Lib.hid hri
      have HEV := Lib.hid hev2
      have HF := Lib.hid hf2
      have HX := Lib.hid hX
      have hO1 := (Only.refl (fun j => j = g) wr).setCell (p := ⟨g, 1, none⟩) (.inl rfl) (.int .u64 (R : Int))
      have hY1 := hY.only hO1 hqg
      have hB1 := hB.put 1 (.int .u64 (R : Int))
      have hsz1 : (wr.setCell ⟨g, 1, none⟩ (.int .u64 (R : Int))).heap.size = wr.heap.size := by simp [World.setCell]
      have HLT := Lib.hid (show g < wr.heap.size ∧ q1 < wr.heap.size from ⟨hB.lt, hY.lt⟩)
      have HO1 := Lib.hid hO1
      have HY1 := Lib.hid hY1
      have HB1 := Lib.hid hB1
      have HQ := Lib.hid hq
      have HO := Lib.hid hO
      have HQG := Lib.hid hqg
      have d0' : (wr.setCell ⟨g, 1, none⟩ (.int .u64 (R : Int))).cell? ⟨g, 0, none⟩ = some (.slice (some ⟨q1, 0, none⟩) bs.length c) := hB1.cell 0
      have hnews : ∀ j u, [Value.int .u8 0][j]? = some u → ((wr.setCell ⟨g, 1, none⟩ (.int .u64 (R : Int))).alloc (.cells #[.int .u8 0] 5)).cell? ((⟨wr.heap.size, 0, none⟩ : Addr).add j) = some u := by rw [← hsz1]; exact (sl_one _ _ _).news
      have HNW := Lib.hid hnews
      have HSZ := Lib.hid hsz1
      rw [← hX] at d0' HO1 HY1 HB1 HNW HSZ
      clear hO1 hY1 hB1 hsz1 hnews hB hY hn hl hqg hq hO hev hf hr0 hr1 hlen hlow hri hR hX he hev2 hf2 d0 z0
      go_wp2_with (at_builtin; refine wpList_append_lies _ rfl (.tmp 95) (.tmp 96) 22 rfl 0 5 i _ 1 1 Try.underlying22 hi hz0 hz1 hz2 rfl (by omega) _ bs.length (bv bs) rfl (HY1.out.own.alloc _) _ 1 1 [.int .u8 0] rfl rfl HNW.out (one_one _ _) (by omega) (by have := HM.out; unfold maxLen; omega) (by have := HM.out; omega) (Nat.zero_le _) _ rfl ?_)
      intro q2 c2 w3 ho hg hq2 hql3
      have hw2 : Only (duo g q1) wr ((wr.setCell ⟨g, 1, none⟩ (.int .u64 X)).alloc (.cells #[.int .u8 0] 5)) := (HO1.out.mono (fun i hi => .inl hi)).alloc _
      have h3 : Only (duo g q1) wr w3 := hw2.trans (Only.of_grown hg (.inr rfl))
      have hgs : wr.heap.size ≤ ((wr.setCell ⟨g, 1, none⟩ (.int .u64 X)).alloc (.cells #[.int .u8 0] 5)).heap.size := hw2.size
      have hB3 := (HB1.out.alloc (.cells #[.int .u8 0] 5)).grown hg (by intro e; injection e with e; exact HQG.out e.symm)
      have hq3 : q2 = q1 ∨ wr.heap.size ≤ q2 := by
        rcases hq2 with h | h
        · left; simp [Value.ownBlock] at h; exact h.symm
        · right; omega
      have hqg2 : q2 ≠ g := by
        have := HLT.out
        rcases hq3 with h | h
        · rw [h]; exact HQG.out
        · omega
      have k0 : w3.cell? ⟨g, 0, none⟩ = some (.slice (some ⟨q1, 0, none⟩) bs.length c) := hB3.cell 0
      have y0 : w3.frozen? ⟨g, 0, none⟩ = false := hB3.free 0
      have hy3 : Byt w3 q2 c2 (bs ++ [0]) := by
        unfold Byt
        rw [bv_append, List.length_append]
        exact ho
      have HB4 := Lib.hid (hB3.put 0 (.slice (some ⟨q2, 0, none⟩) (bs.length + 1) c2))
      have HY4 := Lib.hid (hy3.only ((Only.refl (fun j => j = g) w3).setCell (p := ⟨g, 0, none⟩) (.inl rfl) (.slice (some ⟨q2, 0, none⟩) (bs.length + 1) c2)) hqg2)
      have HO4 := Lib.hid (h3.setCell (p := ⟨g, 0, none⟩) (.inl (.inl rfl)) (.slice (some ⟨q2, 0, none⟩) (bs.length + 1) c2))
      have HQ3 := Lib.hid hq3
      clear ho hg hq2 hw2 h3 hB3 hq3 hy3 d0' HO1 HY1 HB1 HSZ hgs
      go_wp2_with fail
      have m2 : rangeNat (w3.setCell ⟨g, 0, none⟩ (.slice (some ⟨q2, 0, none⟩) (bs.length + 1) c2)) g = R := by
        have h : (w3.setCell ⟨g, 0, none⟩ (.slice (some ⟨q2, 0, none⟩) (bs.length + 1) c2)).cell? ⟨g, 1, none⟩ = some (.int .u64 (R : Int)) := (HB4.out.cell 1).trans (by rw [HX.out]; rfl)
        unfold rangeNat
        rw [h]
        rfl
      have m1 : rangeNat wr g = e1.r := by
        unfold rangeNat
        rw [d1, HRI.out]
        rfl
      go_roundw
      case rel =>
        refine ⟨q2, ⟨be bs * 256, bs.length + 1, R⟩, f, ⟨c2, bs ++ [0], ?_, HY4.out, by rw [be_snoc]; simp, by simp, hqg2⟩, HEV.out, HF.out, by have := HM.out; show 1 ≤ R; omega, HM.out.2.1, HM.out.2.2, ?_, ?_⟩
        · rw [List.length_append]
          have hb4 := HB4.out
          rw [HX.out] at hb4
          exact hb4
        · have hsw := HO.out.size
          rcases HQ3.out with h | h
          · rw [h]; exact HQ.out
          · right; omega
        · refine HO.out.trans' HO4.out (fun i hi => ?_)
          rcases hi with hi | hi
          · exact .inl (.inl hi)
          · rcases HQ.out with h | h
            · exact .inl (.inr (hi.trans h))
            · right; omega
      case measure =>
        rw [m2, m1]
        have := HM.out
        omega
    · have hlo : ¬ ri < 16777216 := by omega
      have HRn := Lib.hid (show Rn wr g q1 T by rw [← hev, evs_high hlow]; exact ⟨c, bs, hB, hY, hn, hl, hqg⟩)
      have HQ := Lib.hid hq
      have HO := Lib.hid hO
      clear hB hY hn hl hqg hq hO hev hf hr0 hr1 hlen hlow hri
      go_wp2_with fail
      first | go_end0 | refine bodyPost_ret (results_none rfl _ _ _) rfl ?_
      exact ⟨rfl, q1, HRn.out, HQ.out, HO.out⟩

set_option maxHeartbeats 8000000 in
theorem rput_zero {z t : Nat} (h : Rn w g q e) (he : EnOk e) (ht : t ≤ 16) (hz : 1 ≤ z) (hz2 : z < 2 ^ t) (hlen : e.l ≤ 999999900) :
    Calls Try.prog 25 #[.pointer (some ⟨g, 0, none⟩), .agg #[.int .i64 1, .int .u32 0, .int .u32 (z : Int), .int .u32 (t : Int)]] w (PutPost w g q (putE e 1 0 z t)) := by
  obtain ⟨i, hi, hz0, hz1, hz2'⟩ := info_parts info_u8
  obtain ⟨a1, a2⟩ := share_bound he.1 ht hz hz2
  have hr := he.2.1
  have hp16 : 2 ^ t ≤ 2 ^ 16 := Nat.pow_le_pow_right (by omega) ht
  obtain ⟨Q, hQ⟩ : ∃ Q, Q = e.r / 2 ^ t := ⟨_, rfl⟩
  have hQle : Q ≤ e.r := by rw [hQ]; exact Nat.div_le_self _ _
  obtain ⟨b, hb⟩ : ∃ b, b = Q * z := ⟨_, rfl⟩
  obtain ⟨T, hT⟩ : ∃ T, T = putE e 1 0 z t := ⟨_, rfl⟩
  rw [← hQ, ← hb] at a1 a2
  have hT2 : (⟨e.n, e.l, b⟩ : En).evs 3 = T := by rw [hT, hb, hQ]; unfold putE; rw [if_neg (by decide), if_pos rfl]; rfl
  rw [← hT]
  have e4 : IntKind.u64.wrap ((Q : Int) * (z : Int)) = (b : Int) := by rw [← Int.natCast_mul, ← hb]; exact u64_in _ (by omega)
  have e6 : IntKind.u64.wrap (z : Int) = (z : Int) := u64_in _ (by omega)
  have e5 : IntKind.i64.wrap (t : Int) = (t : Int) := IntWalk.i64_in _ (by omega)
  have HNUM := Lib.hid (show e.l ≤ 999999900 ∧ 256 ≤ b ∧ b < 4294967296 by omega)
  have HT2 := Lib.hid hT2
  have HTT := Lib.hid ht
  have HQ := Lib.hid hQ
  have HRR := Lib.hid hr
  have hlt := h.lt
  have hO0 := (Only.refl (fun _ => False) w).alloc (.cells #[.int .i64 1, .int .u32 0, .int .u32 (z : Int), .int .u32 (t : Int)] 33)
  have HX := Lib.hid (show Blk (w.alloc (.cells #[.int .i64 1, .int .u32 0, .int .u32 (z : Int), .int .u32 (t : Int)] 33)) w.heap.size 33 #[.int .i64 1, .int .u32 0, .int .u32 (z : Int), .int .u32 (t : Int)] from Blk.fresh w _ _)
  have HH := Lib.hid (h.only hO0 (fun h => h) (fun h => h))
  have HO0 := Lib.hid hO0
  have HLT := Lib.hid hlt
  clear h he hz hz2 ht hlen a1 a2 hr hp16 hQ hQle hb hT hT2 hlt hO0
  have b1 := HX.out.cell 1
  have b2 := HX.out.cell 2
  have b3 := HX.out.cell 3
  obtain ⟨d1, f1⟩ := HH.out.cell1
  go_enter Try.func25, Try.ntmps25
  go_wp2_with fail
  generalize (w.alloc (.cells #[.int .i64 1, .int .u32 0, .int .u32 (z : Int), .int .u32 (t : Int)] 33)) = w0 at *
  generalize hBB : w.heap.size = B at *
  have HBB := Lib.hid hBB
  clear hBB b1 b2 b3
  have b1 : w0.cell? ⟨B, 1, none⟩ = some (.int .u32 0) := HX.out.cell 1
  have b2 : w0.cell? ⟨B, 2, none⟩ = some (.int .u32 (z : Int)) := HX.out.cell 2
  have b3 : w0.cell? ⟨B, 3, none⟩ = some (.int .u32 (t : Int)) := HX.out.cell 3
  go_loopw [4, 5] (fun bd i wr => ∃ j, j ≤ t ∧ i = .int .i64 (j : Int) ∧ bd = .int .u64 ((e.r / 2 ^ j : Nat) : Int) ∧ wr = w0) (fun _ i _ => t - (intOf i).toNat)
  case atStart => exact ⟨0, Nat.zero_le _, rfl, by rw [Nat.pow_zero, Nat.div_one], by first | trivial | rfl⟩
  case round =>
    obtain ⟨j, hj, rfl, rfl, hwr⟩ := hrel
    subst hwr
    by_cases hjt : j < t
    · have hjt' : (j : Int) < (t : Int) := by omega
      obtain ⟨y, hy⟩ : ∃ y, y = e.r / 2 ^ j := ⟨_, rfl⟩
      obtain ⟨y2, hy2⟩ : ∃ y, y = e.r / 2 ^ (j + 1) := ⟨_, rfl⟩
      have hyy : y2 = y / 2 := by rw [hy2, hy, Nat.pow_succ, Nat.div_div_eq_div_mul]
      have ey : (y : Int) / 2 = (y2 : Int) := by omega
      have ej : IntKind.i64.wrap ((j : Int) + 1) = (j : Int) + 1 := IntWalk.i64_in _ (by have := HTT.out; omega)
      have hyr : y2 ≤ e.r := by rw [hy2]; exact Nat.div_le_self _ _
      have ew : IntKind.u64.wrap (y2 : Int) = (y2 : Int) := u64_in _ (by have := HRR.out; omega)
      clear hyr
      rw [← hy]
      have HY2 := Lib.hid hy2
      clear hy hy2 hyy
      go_wp2_with fail
      go_roundw
      case rel => exact ⟨j + 1, by omega, by go_num, by rw [← HY2.out], by first | trivial | rfl⟩
      case measure => simp [intOf]; omega
    · obtain rfl : t = j := by omega
      rw [← HQ.out]
      clear hjt
      have HO1 := Lib.hid HO0.out
      have hH3 : Rn (wr.setCell ⟨g, 1, none⟩ (.int .u64 (b : Int))) g q ⟨e.n, e.l, b⟩ := HH.out.span (R := b)
      have HREL0 := Lib.hid (show EvRel w (wr.setCell ⟨g, 1, none⟩ (.int .u64 (b : Int))) g q T from
        ⟨q, ⟨e.n, e.l, b⟩, 3, hH3, HT2.out, by have := HNUM.out; show 16777216 ≤ b * 256 ^ 3; omega, by have := HNUM.out; show 1 ≤ b; omega, HNUM.out.2.2, by have := HNUM.out; show e.l + 3 ≤ _; omega, .inl rfl, (HO0.out.mono (fun _ h => h.elim)).setCell (p := ⟨g, 1, none⟩) (.inl (.inl rfl)) _⟩)
      clear hH3 HNUM HT2 HLT
      go_wp2_with fail
      go_loopw [] (fun wr => EvRel w wr g q T) (fun wr => 4294967296 - rangeNat wr g)
      case atStart => exact HREL0.out
      case round =>
        clear HREL0
        obtain ⟨q1, e1, f, hRn, hev, hf, hr0, hr1, hlen, hq, hO⟩ := hrel
        obtain ⟨c, bs, hB, hY, hn, hl, hqg⟩ := hRn
        have d1 : wr.cell? ⟨g, 1, none⟩ = some (.int .u64 (e1.r : Int)) := hB.cell 1
        have d0 : wr.cell? ⟨g, 0, none⟩ = some (.slice (some ⟨q1, 0, none⟩) bs.length c) := hB.cell 0
        have z1 : wr.frozen? ⟨g, 1, none⟩ = false := hB.free 1
        have z0 : wr.frozen? ⟨g, 0, none⟩ = false := hB.free 0
        obtain ⟨ri, hri⟩ : ∃ ri : Int, ri = (e1.r : Int) := ⟨_, rfl⟩
        rw [← hri] at d1
        by_cases hlow : e1.r < 16777216
        · obtain ⟨f, rfl⟩ : ∃ f', f = f' + 1 := by
            cases f with
            | zero => rw [Nat.pow_zero, Nat.mul_one] at hf; omega
            | succ f => exact ⟨f, rfl⟩
          have hlo : ri < 16777216 := by omega
          obtain ⟨R, hR⟩ : ∃ R, R = e1.r * 256 := ⟨_, rfl⟩
          obtain ⟨X, hX⟩ : ∃ X : Int, X = (R : Int) := ⟨_, rfl⟩
          have x1 : IntKind.u64.wrap (ri * 256) = X := by rw [hX, hR, hri, show (e1.r : Int) * 256 = ((e1.r * 256 : Nat) : Int) by omega]; exact u64_in _ (by omega)
          have he : e1.even = ⟨be bs * 256, bs.length + 1, R⟩ := by unfold En.even; rw [if_pos hlow, hn, hl, hR]
          have hev2 : (⟨be bs * 256, bs.length + 1, R⟩ : En).evs f = T := by rw [← he]; exact hev
          have hf2 : 16777216 ≤ R * 256 ^ f := by
            rw [Nat.pow_succ, Nat.mul_comm (256 ^ f), ← Nat.mul_assoc] at hf
            rw [hR]; exact hf
          have HM := Lib.hid (show e1.r < R ∧ R < 4294967296 ∧ bs.length + 1 + f ≤ 1000000000 by omega)
          have HRI := Lib.hid hri
          have HEV := Lib.hid hev2
          have HF := Lib.hid hf2
          have HX := Lib.hid hX
          have hO1 := (Only.refl (fun j => j = g) wr).setCell (p := ⟨g, 1, none⟩) (.inl rfl) (.int .u64 (R : Int))
          have hY1 := hY.only hO1 hqg
          have hB1 := hB.put 1 (.int .u64 (R : Int))
          have hsz1 : (wr.setCell ⟨g, 1, none⟩ (.int .u64 (R : Int))).heap.size = wr.heap.size := by simp [World.setCell]
          have HLT := Lib.hid (show g < wr.heap.size ∧ q1 < wr.heap.size from ⟨hB.lt, hY.lt⟩)
          have HO1 := Lib.hid hO1
          have HY1 := Lib.hid hY1
          have HB1 := Lib.hid hB1
          have HQ := Lib.hid hq
          have HO := Lib.hid hO
          have HQG := Lib.hid hqg
          have d0' : (wr.setCell ⟨g, 1, none⟩ (.int .u64 (R : Int))).cell? ⟨g, 0, none⟩ = some (.slice (some ⟨q1, 0, none⟩) bs.length c) := hB1.cell 0
          have hnews : ∀ j u, [Value.int .u8 0][j]? = some u → ((wr.setCell ⟨g, 1, none⟩ (.int .u64 (R : Int))).alloc (.cells #[.int .u8 0] 5)).cell? ((⟨wr.heap.size, 0, none⟩ : Addr).add j) = some u := by rw [← hsz1]; exact (sl_one _ _ _).news
          have HNW := Lib.hid hnews
          have HSZ := Lib.hid hsz1
          rw [← hX] at d0' HO1 HY1 HB1 HNW HSZ
          clear hO1 hY1 hB1 hsz1 hnews hB hY hn hl hqg hq hO hev hf hr0 hr1 hlen hlow hri hR hX he hev2 hf2 d0 z0
          go_wp2_with (at_builtin; refine wpList_append_lies _ rfl (.tmp 95) (.tmp 96) 22 rfl 0 5 i _ 1 1 Try.underlying22 hi hz0 hz1 hz2' rfl (by omega) _ bs.length (bv bs) rfl (HY1.out.own.alloc _) _ 1 1 [.int .u8 0] rfl rfl HNW.out (one_one _ _) (by omega) (by have := HM.out; unfold maxLen; omega) (by have := HM.out; omega) (Nat.zero_le _) _ rfl ?_)
          intro q2 c2 w3 ho hg hq2 hql3
          have hw2 : Only (duo g q1) wr ((wr.setCell ⟨g, 1, none⟩ (.int .u64 X)).alloc (.cells #[.int .u8 0] 5)) := (HO1.out.mono (fun i hi => .inl hi)).alloc _
          have h3 : Only (duo g q1) wr w3 := hw2.trans (Only.of_grown hg (.inr rfl))
          have hgs : wr.heap.size ≤ ((wr.setCell ⟨g, 1, none⟩ (.int .u64 X)).alloc (.cells #[.int .u8 0] 5)).heap.size := hw2.size
          have hB3 := (HB1.out.alloc (.cells #[.int .u8 0] 5)).grown hg (by intro e; injection e with e; exact HQG.out e.symm)
          have hq3 : q2 = q1 ∨ wr.heap.size ≤ q2 := by
            rcases hq2 with h | h
            · left; simp [Value.ownBlock] at h; exact h.symm
            · right; omega
          have hqg2 : q2 ≠ g := by
            have := HLT.out
            rcases hq3 with h | h
            · rw [h]; exact HQG.out
            · omega
          have k0 : w3.cell? ⟨g, 0, none⟩ = some (.slice (some ⟨q1, 0, none⟩) bs.length c) := hB3.cell 0
          have y0 : w3.frozen? ⟨g, 0, none⟩ = false := hB3.free 0
          have hy3 : Byt w3 q2 c2 (bs ++ [0]) := by
            unfold Byt
            rw [bv_append, List.length_append]
            exact ho
          have HB4 := Lib.hid (hB3.put 0 (.slice (some ⟨q2, 0, none⟩) (bs.length + 1) c2))
          have HY4 := Lib.hid (hy3.only ((Only.refl (fun j => j = g) w3).setCell (p := ⟨g, 0, none⟩) (.inl rfl) (.slice (some ⟨q2, 0, none⟩) (bs.length + 1) c2)) hqg2)
          have HO4 := Lib.hid (h3.setCell (p := ⟨g, 0, none⟩) (.inl (.inl rfl)) (.slice (some ⟨q2, 0, none⟩) (bs.length + 1) c2))
          have HQ3 := Lib.hid hq3
          clear ho hg hq2 hw2 h3 hB3 hq3 hy3 d0' HO1 HY1 HB1 HSZ hgs
          go_wp2_with fail
          have m2 : rangeNat (w3.setCell ⟨g, 0, none⟩ (.slice (some ⟨q2, 0, none⟩) (bs.length + 1) c2)) g = R := by
            have h : (w3.setCell ⟨g, 0, none⟩ (.slice (some ⟨q2, 0, none⟩) (bs.length + 1) c2)).cell? ⟨g, 1, none⟩ = some (.int .u64 (R : Int)) := (HB4.out.cell 1).trans (by rw [HX.out]; rfl)
            unfold rangeNat
            rw [h]
            rfl
          have m1 : rangeNat wr g = e1.r := by
            unfold rangeNat
            rw [d1, HRI.out]
            rfl
          go_roundw
          case rel =>
            refine ⟨q2, ⟨be bs * 256, bs.length + 1, R⟩, f, ⟨c2, bs ++ [0], ?_, HY4.out, by rw [be_snoc]; simp, by simp, hqg2⟩, HEV.out, HF.out, by have := HM.out; show 1 ≤ R; omega, HM.out.2.1, HM.out.2.2, ?_, ?_⟩
            · rw [List.length_append]
              have hb4 := HB4.out
              rw [HX.out] at hb4
              exact hb4
            · have hsw := HO.out.size
              rcases HQ3.out with h | h
              · rw [h]; exact HQ.out
              · right; omega
            · refine HO.out.trans' HO4.out (fun i hi => ?_)
              rcases hi with hi | hi
              · exact .inl (.inl hi)
              · rcases HQ.out with h | h
                · exact .inl (.inr (hi.trans h))
                · right; omega
          case measure =>
            rw [m2, m1]
            have := HM.out
            omega
        · have hlo : ¬ ri < 16777216 := by omega
          have HRn := Lib.hid (show Rn wr g q1 T by rw [← hev, evs_high hlow]; exact ⟨c, bs, hB, hY, hn, hl, hqg⟩)
          have HQ := Lib.hid hq
          have HO := Lib.hid hO
          clear hB hY hn hl hqg hq hO hev hf hr0 hr1 hlen hlow hri
          go_wp2_with fail
          first | go_end0 | refine bodyPost_ret (results_none rfl _ _ _) rfl ?_
          exact ⟨rfl, q1, HRn.out, HQ.out, HO.out⟩


set_option maxHeartbeats 8000000 in
theorem rput_one {z t : Nat} (h : Rn w g q e) (he : EnOk e) (ht : t ≤ 16) (hz : 1 ≤ z) (hz2 : z < 2 ^ t) (hlen : e.l ≤ 999999900) :
    Calls Try.prog 25 #[.pointer (some ⟨g, 0, none⟩), .agg #[.int .i64 1, .int .u32 1, .int .u32 (z : Int), .int .u32 (t : Int)]] w (PutPost w g q (putE e 1 1 z t)) := by
  obtain ⟨i, hi, hz0, hz1, hz2'⟩ := info_parts info_u8
  obtain ⟨a1, a2⟩ := share_bound he.1 ht hz hz2
  have hr := he.2.1
  have hp16 : 2 ^ t ≤ 2 ^ 16 := Nat.pow_le_pow_right (by omega) ht
  obtain ⟨Q, hQ⟩ : ∃ Q, Q = e.r / 2 ^ t := ⟨_, rfl⟩
  have hQle : Q ≤ e.r := by rw [hQ]; exact Nat.div_le_self _ _
  obtain ⟨b, hb⟩ : ∃ b, b = Q * z := ⟨_, rfl⟩
  obtain ⟨T, hT⟩ : ∃ T, T = putE e 1 1 z t := ⟨_, rfl⟩
  rw [← hQ, ← hb] at a1 a2
  have hT2 : (⟨e.n + b, e.l, e.r - b⟩ : En).evs 3 = T := by rw [hT, hb, hQ]; unfold putE; rw [if_neg (by decide), if_neg (by decide)]; rfl
  rw [← hT]
  have e4 : IntKind.u64.wrap ((Q : Int) * (z : Int)) = (b : Int) := by rw [← Int.natCast_mul, ← hb]; exact u64_in _ (by omega)
  have e6 : IntKind.u64.wrap (z : Int) = (z : Int) := u64_in _ (by omega)
  have e5 : IntKind.i64.wrap (t : Int) = (t : Int) := IntWalk.i64_in _ (by omega)
  have hfit : e.n + b < 256 ^ e.l := enIn_fits he.2.2 (by omega)
  have HFIT := Lib.hid hfit
  obtain ⟨S, hS⟩ : ∃ S, S = e.r - b := ⟨_, rfl⟩
  rw [← hS] at hT2
  have e7 : IntKind.u64.wrap ((e.r : Int) - (b : Int)) = (S : Int) := by rw [show (e.r : Int) - (b : Int) = (S : Int) by omega]; exact u64_in _ (by omega)
  have HNUM := Lib.hid (show b < 4294967296 ∧ e.l ≤ 999999900 ∧ 16 ≤ S ∧ S < 4294967296 by omega)
  have HT2 := Lib.hid hT2
  have HTT := Lib.hid ht
  have HQ := Lib.hid hQ
  have HRR := Lib.hid hr
  have hlt := h.lt
  have hO0 := (Only.refl (fun _ => False) w).alloc (.cells #[.int .i64 1, .int .u32 1, .int .u32 (z : Int), .int .u32 (t : Int)] 33)
  have HX := Lib.hid (show Blk (w.alloc (.cells #[.int .i64 1, .int .u32 1, .int .u32 (z : Int), .int .u32 (t : Int)] 33)) w.heap.size 33 #[.int .i64 1, .int .u32 1, .int .u32 (z : Int), .int .u32 (t : Int)] from Blk.fresh w _ _)
  have HH := Lib.hid (h.only hO0 (fun h => h) (fun h => h))
  have HO0 := Lib.hid hO0
  have HLT := Lib.hid hlt
  clear h he hz hz2 ht hlen a1 a2 hr hp16 hQ hQle hb hT hT2 hlt hO0 hfit hS
  have b1 := HX.out.cell 1
  have b2 := HX.out.cell 2
  have b3 := HX.out.cell 3
  obtain ⟨d1, f1⟩ := HH.out.cell1
  go_enter Try.func25, Try.ntmps25
  go_wp2_with fail
  generalize (w.alloc (.cells #[.int .i64 1, .int .u32 1, .int .u32 (z : Int), .int .u32 (t : Int)] 33)) = w0 at *
  generalize hBB : w.heap.size = B at *
  have HBB := Lib.hid hBB
  clear hBB b1 b2 b3
  have b1 : w0.cell? ⟨B, 1, none⟩ = some (.int .u32 1) := HX.out.cell 1
  have b2 : w0.cell? ⟨B, 2, none⟩ = some (.int .u32 (z : Int)) := HX.out.cell 2
  have b3 : w0.cell? ⟨B, 3, none⟩ = some (.int .u32 (t : Int)) := HX.out.cell 3
  go_loopw [4, 5] (fun bd i wr => ∃ j, j ≤ t ∧ i = .int .i64 (j : Int) ∧ bd = .int .u64 ((e.r / 2 ^ j : Nat) : Int) ∧ wr = w0) (fun _ i _ => t - (intOf i).toNat)
  case atStart => exact ⟨0, Nat.zero_le _, rfl, by rw [Nat.pow_zero, Nat.div_one], by first | trivial | rfl⟩
  case round =>
    obtain ⟨j, hj, rfl, rfl, hwr⟩ := hrel
    subst hwr
    by_cases hjt : j < t
    · have hjt' : (j : Int) < (t : Int) := by omega
      obtain ⟨y, hy⟩ : ∃ y, y = e.r / 2 ^ j := ⟨_, rfl⟩
      obtain ⟨y2, hy2⟩ : ∃ y, y = e.r / 2 ^ (j + 1) := ⟨_, rfl⟩
      have hyy : y2 = y / 2 := by rw [hy2, hy, Nat.pow_succ, Nat.div_div_eq_div_mul]
      have ey : (y : Int) / 2 = (y2 : Int) := by omega
      have ej : IntKind.i64.wrap ((j : Int) + 1) = (j : Int) + 1 := IntWalk.i64_in _ (by have := HTT.out; omega)
      have hyr : y2 ≤ e.r := by rw [hy2]; exact Nat.div_le_self _ _
      have ew : IntKind.u64.wrap (y2 : Int) = (y2 : Int) := u64_in _ (by have := HRR.out; omega)
      clear hyr
      rw [← hy]
      have HY2 := Lib.hid hy2
      clear hy hy2 hyy
      go_wp2_with fail
      go_roundw
      case rel => exact ⟨j + 1, by omega, by go_num, by rw [← HY2.out], by first | trivial | rfl⟩
      case measure => simp [intOf]; omega
    · obtain rfl : t = j := by omega
      rw [← HQ.out]
      clear hjt
      have hqB : B ≠ q := by have := HLT.out; omega
      have K := Lib.hid (radd_any (v := b) HH.out HNUM.out.1 HFIT.out (by have := HNUM.out; omega))
      go_wp2_with fail
      refine K.out.mono ?_
      rintro x w2 ⟨rfl, hH2, hO2⟩
      have HH2 := Lib.hid hH2
      have HO2 := Lib.hid (show Only (duo g q) w w2 from (HO0.out.mono (fun _ h => h.elim)).trans (hO2.mono fun i hi => .inr hi))
      clear hH2 hO2 HH HX HO0 K b1 b2 b3 d1 f1
      obtain ⟨d1, f1⟩ := HH2.out.cell1
      dsimp only at d1
      have hH3 : Rn (w2.setCell ⟨g, 1, none⟩ (.int .u64 (S : Int))) g q ⟨e.n + b, e.l, S⟩ := HH2.out.span (R := S)
      have HREL0 := Lib.hid (show EvRel w (w2.setCell ⟨g, 1, none⟩ (.int .u64 (S : Int))) g q T from
        ⟨q, ⟨e.n + b, e.l, S⟩, 3, hH3, HT2.out, by have := HNUM.out; show 16777216 ≤ S * 256 ^ 3; omega, by have := HNUM.out; show 1 ≤ S; omega, HNUM.out.2.2.2, by have := HNUM.out; show e.l + 3 ≤ _; omega, .inl rfl, HO2.out.setCell (p := ⟨g, 1, none⟩) (.inl (.inl rfl)) _⟩)
      clear hH3 HH2 HO2 HNUM HFIT HT2 HLT
      go_wp2_with fail
      go_loopw [] (fun wr => EvRel w wr g q T) (fun wr => 4294967296 - rangeNat wr g)
      case atStart => exact HREL0.out
      case round =>
        clear HREL0
        obtain ⟨q1, e1, f, hRn, hev, hf, hr0, hr1, hlen, hq, hO⟩ := hrel
        obtain ⟨c, bs, hB, hY, hn, hl, hqg⟩ := hRn
        have d1 : wr.cell? ⟨g, 1, none⟩ = some (.int .u64 (e1.r : Int)) := hB.cell 1
        have d0 : wr.cell? ⟨g, 0, none⟩ = some (.slice (some ⟨q1, 0, none⟩) bs.length c) := hB.cell 0
        have z1 : wr.frozen? ⟨g, 1, none⟩ = false := hB.free 1
        have z0 : wr.frozen? ⟨g, 0, none⟩ = false := hB.free 0
        obtain ⟨ri, hri⟩ : ∃ ri : Int, ri = (e1.r : Int) := ⟨_, rfl⟩
        rw [← hri] at d1
        by_cases hlow : e1.r < 16777216
        · obtain ⟨f, rfl⟩ : ∃ f', f = f' + 1 := by
            cases f with
            | zero => rw [Nat.pow_zero, Nat.mul_one] at hf; omega
            | succ f => exact ⟨f, rfl⟩
          have hlo : ri < 16777216 := by omega
          obtain ⟨R, hR⟩ : ∃ R, R = e1.r * 256 := ⟨_, rfl⟩
          obtain ⟨X, hX⟩ : ∃ X : Int, X = (R : Int) := ⟨_, rfl⟩
          have x1 : IntKind.u64.wrap (ri * 256) = X := by rw [hX, hR, hri, show (e1.r : Int) * 256 = ((e1.r * 256 : Nat) : Int) by omega]; exact u64_in _ (by omega)
          have he : e1.even = ⟨be bs * 256, bs.length + 1, R⟩ := by unfold En.even; rw [if_pos hlow, hn, hl, hR]
          have hev2 : (⟨be bs * 256, bs.length + 1, R⟩ : En).evs f = T := by rw [← he]; exact hev
          have hf2 : 16777216 ≤ R * 256 ^ f := by
            rw [Nat.pow_succ, Nat.mul_comm (256 ^ f), ← Nat.mul_assoc] at hf
            rw [hR]; exact hf
          have HM := Lib.hid (show e1.r < R ∧ R < 4294967296 ∧ bs.length + 1 + f ≤ 1000000000 by omega)
          have HRI := Lib.hid hri
          have HEV := Lib.hid hev2
          have HF := Lib.hid hf2
          have HX := Lib.hid hX
          have hO1 := (Only.refl (fun j => j = g) wr).setCell (p := ⟨g, 1, none⟩) (.inl rfl) (.int .u64 (R : Int))
          have hY1 := hY.only hO1 hqg
          have hB1 := hB.put 1 (.int .u64 (R : Int))
          have hsz1 : (wr.setCell ⟨g, 1, none⟩ (.int .u64 (R : Int))).heap.size = wr.heap.size := by simp [World.setCell]
          have HLT := Lib.hid (show g < wr.heap.size ∧ q1 < wr.heap.size from ⟨hB.lt, hY.lt⟩)
          have HO1 := Lib.hid hO1
          have HY1 := Lib.hid hY1
          have HB1 := Lib.hid hB1
          have HQ := Lib.hid hq
          have HO := Lib.hid hO
          have HQG := Lib.hid hqg
          have d0' : (wr.setCell ⟨g, 1, none⟩ (.int .u64 (R : Int))).cell? ⟨g, 0, none⟩ = some (.slice (some ⟨q1, 0, none⟩) bs.length c) := hB1.cell 0
          have hnews : ∀ j u, [Value.int .u8 0][j]? = some u → ((wr.setCell ⟨g, 1, none⟩ (.int .u64 (R : Int))).alloc (.cells #[.int .u8 0] 5)).cell? ((⟨wr.heap.size, 0, none⟩ : Addr).add j) = some u := by rw [← hsz1]; exact (sl_one _ _ _).news
          have HNW := Lib.hid hnews
          have HSZ := Lib.hid hsz1
          rw [← hX] at d0' HO1 HY1 HB1 HNW HSZ
          clear hO1 hY1 hB1 hsz1 hnews hB hY hn hl hqg hq hO hev hf hr0 hr1 hlen hlow hri hR hX he hev2 hf2 d0 z0
          go_wp2_with (at_builtin; refine wpList_append_lies _ rfl (.tmp 95) (.tmp 96) 22 rfl 0 5 i _ 1 1 Try.underlying22 hi hz0 hz1 hz2' rfl (by omega) _ bs.length (bv bs) rfl (HY1.out.own.alloc _) _ 1 1 [.int .u8 0] rfl rfl HNW.out (one_one _ _) (by omega) (by have := HM.out; unfold maxLen; omega) (by have := HM.out; omega) (Nat.zero_le _) _ rfl ?_)
          intro q2 c2 w3 ho hg hq2 hql3
          have hw2 : Only (duo g q1) wr ((wr.setCell ⟨g, 1, none⟩ (.int .u64 X)).alloc (.cells #[.int .u8 0] 5)) := (HO1.out.mono (fun i hi => .inl hi)).alloc _
          have h3 : Only (duo g q1) wr w3 := hw2.trans (Only.of_grown hg (.inr rfl))
          have hgs : wr.heap.size ≤ ((wr.setCell ⟨g, 1, none⟩ (.int .u64 X)).alloc (.cells #[.int .u8 0] 5)).heap.size := hw2.size
          have hB3 := (HB1.out.alloc (.cells #[.int .u8 0] 5)).grown hg (by intro e; injection e with e; exact HQG.out e.symm)
          have hq3 : q2 = q1 ∨ wr.heap.size ≤ q2 := by
            rcases hq2 with h | h
            · left; simp [Value.ownBlock] at h; exact h.symm
            · right; omega
          have hqg2 : q2 ≠ g := by
            have := HLT.out
            rcases hq3 with h | h
            · rw [h]; exact HQG.out
            · omega
          have k0 : w3.cell? ⟨g, 0, none⟩ = some (.slice (some ⟨q1, 0, none⟩) bs.length c) := hB3.cell 0
          have y0 : w3.frozen? ⟨g, 0, none⟩ = false := hB3.free 0
          have hy3 : Byt w3 q2 c2 (bs ++ [0]) := by
            unfold Byt
            rw [bv_append, List.length_append]
            exact ho
          have HB4 := Lib.hid (hB3.put 0 (.slice (some ⟨q2, 0, none⟩) (bs.length + 1) c2))
          have HY4 := Lib.hid (hy3.only ((Only.refl (fun j => j = g) w3).setCell (p := ⟨g, 0, none⟩) (.inl rfl) (.slice (some ⟨q2, 0, none⟩) (bs.length + 1) c2)) hqg2)
          have HO4 := Lib.hid (h3.setCell (p := ⟨g, 0, none⟩) (.inl (.inl rfl)) (.slice (some ⟨q2, 0, none⟩) (bs.length + 1) c2))
          have HQ3 := Lib.hid hq3
          clear ho hg hq2 hw2 h3 hB3 hq3 hy3 d0' HO1 HY1 HB1 HSZ hgs
          go_wp2_with fail
          have m2 : rangeNat (w3.setCell ⟨g, 0, none⟩ (.slice (some ⟨q2, 0, none⟩) (bs.length + 1) c2)) g = R := by
            have h : (w3.setCell ⟨g, 0, none⟩ (.slice (some ⟨q2, 0, none⟩) (bs.length + 1) c2)).cell? ⟨g, 1, none⟩ = some (.int .u64 (R : Int)) := (HB4.out.cell 1).trans (by rw [HX.out]; rfl)
            unfold rangeNat
            rw [h]
            rfl
          have m1 : rangeNat wr g = e1.r := by
            unfold rangeNat
            rw [d1, HRI.out]
            rfl
          go_roundw
          case rel =>
            refine ⟨q2, ⟨be bs * 256, bs.length + 1, R⟩, f, ⟨c2, bs ++ [0], ?_, HY4.out, by rw [be_snoc]; simp, by simp, hqg2⟩, HEV.out, HF.out, by have := HM.out; show 1 ≤ R; omega, HM.out.2.1, HM.out.2.2, ?_, ?_⟩
            · rw [List.length_append]
              have hb4 := HB4.out
              rw [HX.out] at hb4
              exact hb4
            · have hsw := HO.out.size
              rcases HQ3.out with h | h
              · rw [h]; exact HQ.out
              · right; omega
            · refine HO.out.trans' HO4.out (fun i hi => ?_)
              rcases hi with hi | hi
              · exact .inl (.inl hi)
              · rcases HQ.out with h | h
                · exact .inl (.inr (hi.trans h))
                · right; omega
          case measure =>
            rw [m2, m1]
            have := HM.out
            omega
        · have hlo : ¬ ri < 16777216 := by omega
          have HRn := Lib.hid (show Rn wr g q1 T by rw [← hev, evs_high hlow]; exact ⟨c, bs, hB, hY, hn, hl, hqg⟩)
          have HQ := Lib.hid hq
          have HO := Lib.hid hO
          clear hB hY hn hl hqg hq hO hev hf hr0 hr1 hlen hlow hri
          go_wp2_with fail
          first | go_end0 | refine bodyPost_ret (results_none rfl _ _ _) rfl ?_
          exact ⟨rfl, q1, HRn.out, HQ.out, HO.out⟩


/-- A share is put. -/
theorem rput_any {Q : Shr} (h : Rn w g q e) (he : EnOk e) (hl : ShrLit Q) (hq : RightS Q) (hlen : e.l ≤ 999999900) :
    Calls Try.prog 25 #[.pointer (some ⟨g, 0, none⟩), .agg (shrArr Q)] w (PutPost w g q (putE e Q.k.toNat Q.s.toNat Q.z.toNat Q.t.toNat)) := by
  have hN := rightN_of hq
  obtain ⟨k, s, z, t⟩ := Q
  obtain ⟨_, ⟨s0, _⟩, ⟨z0, _⟩, ⟨t0, _⟩⟩ := hl
  unfold shrArr
  dsimp only at s0 z0 t0 hN ⊢
  obtain ⟨s, rfl⟩ := Int.eq_ofNat_of_zero_le s0
  obtain ⟨z, rfl⟩ := Int.eq_ofNat_of_zero_le z0
  obtain ⟨t, rfl⟩ := Int.eq_ofNat_of_zero_le t0
  rcases hq with ⟨rfl, _⟩ | ⟨rfl, _⟩
  · rcases hN with ⟨_, h1, h2, h3⟩ | ⟨h0, _⟩
    · exact rput_share h he h1 h2 h3 hlen
    · cases h0
  · rcases hN with ⟨h0, _⟩ | ⟨_, h1, h2, h3, h4, h5⟩
    · cases h0
    · rcases (show s = 0 ∨ s = 1 by have : s ≤ 1 := h1; omega) with rfl | rfl
      · exact rput_zero h he h3 h4 h5 hlen
      · exact rput_one h he h3 h4 h5 hlen
end
end Go.Proofs.Ytkjhdpfomofggaa
