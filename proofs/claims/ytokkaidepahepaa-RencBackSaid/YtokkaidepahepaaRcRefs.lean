/-
  The reference's coder: evened out, made, a bit, a question.
-/
import Derived.Test.YtokkaidepahepaaRcRef
import Derived.Test.YtokkaidepahepaaRdRight
namespace Go.Proofs.Ytokkaidepahepaa
open Go.RowKit

/-- What a call of the reference's coder leaves. -/
def RnPost5 (w : World) (g q : Nat) (v : Value) (e' : En) (e : Ending) (w' : World) : Prop :=
  e = .returned v ∧ ∃ q', Rn w' g q' e' ∧ (q' = q ∨ w.heap.size ≤ q') ∧ Only (two g q) w w'

section
variable {w : World} {g q c r : Nat} {bs : List UInt8}

set_option maxHeartbeats 1000000 in
theorem rlevel_high (hB : Blk w g 41 (rnCells q bs.length c r)) (hr : ¬ r < 16777216) :
    Calls Try.prog 33 #[.pointer (some ⟨g, 0, none⟩)] w fun e w' => e = .returned (.tuple #[]) ∧ w = w' := by
  have c1 : w.cell? ⟨g, 1, none⟩ = some (.int .u64 (r : Int)) := hB.cell 1
  have hr' : ¬ (r : Int) < 16777216 := by omega
  clear hB hr
  go_enter Try.func33, Try.ntmps33
  go_wp2_with fail
  go_loopw [] (fun wr => wr = w) (fun _ => 0)
  case atStart => rfl
  case round =>
    subst hrel
    have hr2 : ¬ (r : Int) < 16777216 := by omega
    go_wp2_with fail
    first | go_end0 | refine bodyPost_ret (results_none rfl _ _ _) rfl ?_
    exact ⟨rfl, rfl⟩

/-- the range has been multiplied, and a byte is behind -/
def LowDone (w wr : World) (g q : Nat) (bs : List UInt8) (R : Nat) : Prop :=
  ∃ q' c', Blk wr g 41 (rnCells q' (bs ++ [0]).length c' R) ∧ Byt wr q' c' (bs ++ [0]) ∧ q' ≠ g ∧ (q' = q ∨ w.heap.size ≤ q') ∧ Only (two g q) w wr
open Classical in
/-- whether the range is still the one that was -/
noncomputable def lowLeft (wr : World) (g r : Nat) : Nat := if wr.cell? ⟨g, 1, none⟩ = some (.int .u64 (r : Int)) then 1 else 0

set_option maxHeartbeats 4000000 in
theorem rlevel_low (hB : Blk w g 41 (rnCells q bs.length c r)) (hY : Byt w q c bs) (hqg : q ≠ g) (hr : r < 16777216) (hr0 : 65536 ≤ r) (hlen : bs.length ≤ 1000000000) :
    Calls Try.prog 33 #[.pointer (some ⟨g, 0, none⟩)] w (RnPost5 w g q (.tuple #[]) ⟨be bs * 256, bs.length + 1, r * 256⟩) := by
  obtain ⟨i, hi, hz0, hz1, hz2⟩ := info_parts info_u8
  have c0 : w.cell? ⟨g, 0, none⟩ = some (.slice (some ⟨q, 0, none⟩) bs.length c) := hB.cell 0
  have c1 : w.cell? ⟨g, 1, none⟩ = some (.int .u64 (r : Int)) := hB.cell 1
  have f0 : w.frozen? ⟨g, 0, none⟩ = false := hB.free 0
  have f1 : w.frozen? ⟨g, 1, none⟩ = false := hB.free 1
  have hr' : (r : Int) < 16777216 := by omega
  have e1 : IntKind.u64.wrap ((r : Int) * 256) = ((r * 256 : Nat) : Int) := by rw [show (r : Int) * 256 = ((r * 256 : Nat) : Int) by omega]; exact u64_in _ (by omega)
  have hr2 : ¬ ((r * 256 : Nat) : Int) < 16777216 := by omega
  have HB := Lib.hid hB
  have HY := Lib.hid hY
  have hgl := hB.lt
  have hql := hY.lt
  have hrR : r ≠ r * 256 := by omega
  clear hB hY
  obtain ⟨R, hR⟩ : ∃ R, R = r * 256 := ⟨_, rfl⟩
  rw [← hR] at e1 hr2 hrR
  have HRR := Lib.hid hR
  have hR2 : ¬ R < 16777216 := by omega
  have HR2 := Lib.hid hR2
  have HRL := Lib.hid hr
  clear hR hR2 hr hr0 hr' hr2
  go_enter Try.func33, Try.ntmps33
  go_wp2_with fail
  go_loopw [] (fun wr => wr = w ∨ LowDone w wr g q bs R) (fun wr => lowLeft wr g r)
  case atStart => exact .inl rfl
  case round =>
    have HREL := Lib.hid hrel
    clear hrel
    rcases HREL.out with hw | hd
    · clear HREL
      obtain rfl : w = wr := hw.symm
      have hr' : (r : Int) < 16777216 := by have := HRL.out; omega
      have hO1 := (Only.refl (two g q) w).setCell (p := ⟨g, 1, none⟩) (.inl (two_l g q)) (.int .u64 (R : Int))
      have hY1 := HY.out.only ((Only.refl (fun j => j = g) w).setCell (p := ⟨g, 1, none⟩) (.inl rfl) (.int .u64 (R : Int))) hqg
      have hB1 := HB.out.put 1 (.int .u64 (R : Int))
      have hsz1 : (w.setCell ⟨g, 1, none⟩ (.int .u64 (R : Int))).heap.size = w.heap.size := by simp [World.setCell]
      have HO1 := Lib.hid hO1
      have HY1 := Lib.hid hY1
      have HB1 := Lib.hid hB1
      have d0 : (w.setCell ⟨g, 1, none⟩ (.int .u64 (R : Int))).cell? ⟨g, 0, none⟩ = some (.slice (some ⟨q, 0, none⟩) bs.length c) := hB1.cell 0
      have hnews : ∀ j u, [Value.int .u8 0][j]? = some u → ((w.setCell ⟨g, 1, none⟩ (.int .u64 (R : Int))).alloc (.cells #[.int .u8 0] 5)).cell? ((⟨w.heap.size, 0, none⟩ : Addr).add j) = some u := by rw [← hsz1]; exact (sl_one _ _ _).news
      have HNW := Lib.hid hnews
      have HSZ := Lib.hid hsz1
      clear hO1 hY1 hB1 hsz1 hnews
      go_wp2_with (at_builtin; refine wpList_append_lies _ rfl (.tmp 19) (.tmp 20) 38 rfl 0 5 i _ 1 1 Try.underlying38 hi hz0 hz1 hz2 rfl (by omega) _ bs.length (bv bs) rfl (HY1.out.own.alloc _) _ 1 1 [.int .u8 0] rfl rfl HNW.out (one_one _ _) (by omega) (by unfold maxLen; omega) (by omega) (Nat.zero_le _) _ rfl ?_)
      intro q' c' w3 ho hg hq hql3
      have hw2 : Only (two g q) w ((w.setCell ⟨g, 1, none⟩ (.int .u64 (R : Int))).alloc (.cells #[.int .u8 0] 5)) := HO1.out.alloc _
      have h3 := hw2.trans (Only.of_grown hg (two_r g q))
      have hgs : w.heap.size ≤ ((w.setCell ⟨g, 1, none⟩ (.int .u64 (R : Int))).alloc (.cells #[.int .u8 0] 5)).heap.size := hw2.size
      have hB3 := (HB1.out.alloc (.cells #[.int .u8 0] 5)).grown hg (by intro e; injection e with e; exact hqg e.symm)
      have hq2 : q' = q ∨ w.heap.size ≤ q' := by
        rcases hq with hq | hq
        · left; simp [Value.ownBlock] at hq; exact hq.symm
        · right; omega
      have hqg' : q' ≠ g := by rcases hq2 with h | h <;> omega
      have k0 : w3.cell? ⟨g, 0, none⟩ = some (.slice (some ⟨q, 0, none⟩) bs.length c) := hB3.cell 0
      have k1 : w3.cell? ⟨g, 1, none⟩ = some (.int .u64 (R : Int)) := hB3.cell 1
      have z0 : w3.frozen? ⟨g, 0, none⟩ = false := hB3.free 0
      have HO3 := Lib.hid h3
      have HB3 := Lib.hid hB3
      have HQ2 := Lib.hid hq2
      have hy3 : Byt w3 q' c' (bs ++ [0]) := by
        unfold Byt
        rw [bv_append, List.length_append]
        exact ho
      have HY3 := Lib.hid hy3
      clear ho hg hq hw2 h3 hB3 hq2 hy3 d0 f0 f1 c0 HO1 HY1 HB1 HSZ hgs
      go_wp2_with fail
      go_roundw
      case rel =>
        right
        refine ⟨q', c', ?_, HY3.out.only ((Only.refl (fun j => j = g) w3).setCell (p := ⟨g, 0, none⟩) (.inl rfl) _) hqg', hqg', HQ2.out, HO3.out.setCell (p := ⟨g, 0, none⟩) (.inl (two_l g q)) _⟩
        have := HB3.out.put 0 (.slice (some ⟨q', 0, none⟩) (bs.length + 1) c')
        rw [List.length_append]
        exact this
      case measure =>
        have n1 : (w3.setCell ⟨g, 0, none⟩ (.slice (some ⟨q', 0, none⟩) (bs.length + 1) c')).cell? ⟨g, 1, none⟩ = some (.int .u64 (R : Int)) := (HB3.out.put 0 (.slice (some ⟨q', 0, none⟩) (bs.length + 1) c')).cell 1
        unfold lowLeft
        rw [if_neg (by rw [n1]; intro e; injection e with e; injection e with _ e; omega), if_pos c1]
        omega
    · clear HREL
      obtain ⟨q', c', hB3, hY3, hqg', hq2, hO3⟩ := hd
      have k1 : wr.cell? ⟨g, 1, none⟩ = some (.int .u64 (R : Int)) := hB3.cell 1
      have HB3 := Lib.hid hB3
      have HY3 := Lib.hid hY3
      have HQ2 := Lib.hid hq2
      have HO3 := Lib.hid hO3
      clear hB3 hY3 hq2 hO3 c0 c1 f0 f1
      have hr2 : ¬ (R : Int) < 16777216 := by have := HR2.out; omega
      go_wp2_with fail
      first | go_end0 | refine bodyPost_ret (results_none rfl _ _ _) rfl ?_
      rw [← HRR.out]
      exact ⟨rfl, q', ⟨c', bs ++ [0], HB3.out, HY3.out, by rw [be_snoc]; simp, by simp, hqg'⟩, HQ2.out, HO3.out⟩

theorem rlevel_any {e : En} (h : Rn w g q e) (hr0 : 65536 ≤ e.r) (hlen : e.l ≤ 1000000000) :
    Calls Try.prog 33 #[.pointer (some ⟨g, 0, none⟩)] w (RnPost5 w g q (.tuple #[]) e.even) := by
  obtain ⟨c, bs, hB, hY, hn, hl, hqg⟩ := h
  by_cases hr : e.r < 16777216
  · have := rlevel_low hB hY hqg hr hr0 (by omega)
    have he : e.even = ⟨be bs * 256, bs.length + 1, e.r * 256⟩ := by unfold En.even; rw [if_pos hr, hn, hl]
    rw [he]
    exact this
  · have he : e.even = e := by unfold En.even; rw [if_neg hr]
    rw [he]
    refine (rlevel_high hB hr).mono ?_
    rintro e' w' ⟨rfl, rfl⟩
    exact ⟨rfl, q, ⟨c, bs, hB, hY, hn, hl, hqg⟩, .inl rfl, Only.refl _ _⟩

set_option maxHeartbeats 2000000 in
theorem rnew5_any (w : World) : Calls Try.prog 9 #[] w fun e w' => e = .returned (.pointer (some ⟨w.heap.size + 1, 0, none⟩)) ∧ Rn w' (w.heap.size + 1) w.heap.size En.new ∧ Below w.heap.size w w' := by
  obtain ⟨i, hi, hz0, hz1, hz2⟩ := info_parts info_u8
  have hmk : ∀ w, (Instr.makeSlice 38 (.int .i64 5) (.int .i64 5)).run Try.prog w = .ok (.slice (some ⟨w.heap.size, 0, none⟩) 5 5) (w.alloc (.cells #[.int .u8 0, .int .u8 0, .int .u8 0, .int .u8 0, .int .u8 0] 5)) := fun _ => by kernel_rfl
  have hsz : (w.alloc (.cells #[.int .u8 0, .int .u8 0, .int .u8 0, .int .u8 0, .int .u8 0] 5)).heap.size = w.heap.size + 1 := by simp
  have HY := Lib.hid (show Byt (w.alloc (.cells #[.int .u8 0, .int .u8 0, .int .u8 0, .int .u8 0, .int .u8 0] 5)) w.heap.size 5 [0, 0, 0, 0, 0] from
    ⟨by simp [bv], .inr ⟨w.heap.size, 5, #[.int .u8 0, .int .u8 0, .int .u8 0, .int .u8 0, .int .u8 0], rfl, Nat.zero_le _, heap_alloc_new w _, by simp, by unfold maxLen; omega, by simp, by simp [bv]⟩⟩)
  have HSZ := Lib.hid hsz
  have HB := Lib.hid ((Below.refl w.heap.size w).alloc (Nat.le_refl _) (.cells #[.int .u8 0, .int .u8 0, .int .u8 0, .int .u8 0, .int .u8 0] 5))
  clear hsz
  go_enter Try.func9, Try.ntmps9
  go_wp2_with fail
  go_ret
  have hsz := HSZ.out
  generalize (w.alloc (.cells #[.int .u8 0, .int .u8 0, .int .u8 0, .int .u8 0, .int .u8 0] 5)) = w1 at *
  refine ⟨rfl, ⟨5, [0, 0, 0, 0, 0], ?_, HY.out.only ((Only.refl (fun _ => False) w1).alloc _) (fun h => h), rfl, rfl, by omega⟩, HB.out.alloc (by omega) _⟩
  have := Blk.fresh w1 41 (rnCells w.heap.size 5 5 4294967295)
  rw [hsz] at this
  exact this

theorem wrapU16 (x : Int) (h : 0 ≤ x ∧ x < 65536) : IntKind.u16.wrap x = x := by
  simp [IntKind.wrap, IntKind.bits, IntKind.signed]
  omega

set_option maxHeartbeats 4000000 in
theorem rbit5_zero {e : En} {p z : Nat} (hz : z = e.r / 2048 * p) (h : Rn w g q e) (he : EnOk e) (hp : POk p) (hlen : e.l ≤ 999999999) :
    Calls Try.prog 31 #[.pointer (some ⟨g, 0, none⟩), .int .u16 (p : Int), .int .i64 0] w (RnPost5 w g q (.int .u16 (up0 p : Int)) (En.even ⟨e.n, e.l, z⟩)) := by
  obtain ⟨b0, b1⟩ := bound_in he.1 he.2.1 hp
  have hr := he.2.1
  obtain ⟨p0, p1⟩ := hp
  obtain ⟨c, bs, hB, hY, hn, hl, hqg⟩ := h
  rw [← hz] at b0 b1
  have h1 : w.cell? ⟨g, 1, none⟩ = some (.int .u64 (e.r : Int)) := hB.cell 1
  have f1 : w.frozen? ⟨g, 1, none⟩ = false := hB.free 1
  have e0 : IntKind.u64.wrap (p : Int) = (p : Int) := u64_in _ (by omega)
  have e1 : IntKind.u64.wrap ((e.r : Int) / 2048 * (p : Int)) = (z : Int) := by
    rw [show (e.r : Int) / 2048 * (p : Int) = (z : Int) by rw [hz]; simp]
    exact u64_in _ (by omega)
  have e2 : IntKind.u16.wrap (2048 - (p : Int)) = 2048 - (p : Int) := wrapU16 _ (by omega)
  obtain ⟨u, hu⟩ : ∃ u, u = (2048 - p) / 32 := ⟨_, rfl⟩
  have e3 : IntKind.u16.wrap ((2048 - (p : Int)).tdiv 32) = (u : Int) := by
    rw [Int.tdiv_eq_ediv_of_nonneg (by omega), show (2048 - (p : Int)) / 32 = (u : Int) by omega]
    exact wrapU16 _ (by omega)
  have hup : up0 p = p + u := by unfold up0; omega
  have e5 : IntKind.u16.wrap ((p : Int) + (u : Int)) = ((p + u : Nat) : Int) := by rw [← Int.natCast_add]; exact wrapU16 _ (by omega)
  rw [hup]
  have hO := (Only.refl (fun i => i = g) w).setCell (p := ⟨g, 1, none⟩) (.inl rfl) (.int .u64 (z : Int))
  have K := Lib.hid (rlevel_any (e := ⟨e.n, e.l, z⟩) (⟨c, bs, hB.put 1 (.int .u64 (z : Int)), hY.only hO hqg, hn, hl, hqg⟩ : Rn (w.setCell ⟨g, 1, none⟩ (.int .u64 (z : Int))) g q ⟨e.n, e.l, z⟩) (by show 65536 ≤ z; omega) (by show e.l ≤ _; omega))
  have HO := Lib.hid hO
  clear hB hY hO hu hup hz he hn hl
  generalize p + u = pu at *
  go_enter Try.func31, Try.ntmps31
  go_wp2_with fail
  refine K.out.mono ?_
  rintro e' w1 ⟨rfl, q', hN, hq, hO1⟩
  have HN := Lib.hid hN
  have HQ := Lib.hid hq
  have HO1 := Lib.hid ((HO.out.mono (fun i hi => .inl hi) : Only (two g q) w _).trans hO1)
  clear hN hq hO1 HO K
  go_wp2_with fail
  go_ret
  refine ⟨rfl, q', HN.out, ?_, HO1.out⟩
  rcases HQ.out with h | h
  · exact .inl h
  · right
    have hs : (w.setCell ⟨g, 1, none⟩ (.int .u64 (z : Int))).heap.size = w.heap.size := by simp [World.setCell]
    rw [hs] at h
    exact h

set_option maxHeartbeats 4000000 in
theorem rbit5_one {e : En} {p z : Nat} (hz : z = e.r / 2048 * p) (h : Rn w g q e) (he : EnOk e) (hp : POk p) (hlen : e.l ≤ 999999999) :
    Calls Try.prog 31 #[.pointer (some ⟨g, 0, none⟩), .int .u16 (p : Int), .int .i64 1] w (RnPost5 w g q (.int .u16 (up1 p : Int)) (En.even ⟨e.n + z, e.l, e.r - z⟩)) := by
  obtain ⟨b0, b1⟩ := bound_in he.1 he.2.1 hp
  have hr := he.2.1
  obtain ⟨p0, p1⟩ := hp
  obtain ⟨c, bs, hB, hY, hn, hl, hqg⟩ := h
  rw [← hz] at b0 b1
  have h1 : w.cell? ⟨g, 1, none⟩ = some (.int .u64 (e.r : Int)) := hB.cell 1
  have e0 : IntKind.u64.wrap (p : Int) = (p : Int) := u64_in _ (by omega)
  have e1 : IntKind.u64.wrap ((e.r : Int) / 2048 * (p : Int)) = (z : Int) := by
    rw [show (e.r : Int) / 2048 * (p : Int) = (z : Int) by rw [hz]; simp]
    exact u64_in _ (by omega)
  have hfit : e.n + z < 256 ^ bs.length := by rw [hl]; exact enIn_fits he.2.2 (by omega)
  have KA := Lib.hid (add_any (v := z) (N := e.n + z) hB hY hqg (by omega) (by rw [hn]) hfit (by omega))
  have e3 : IntKind.u64.wrap ((e.r : Int) - (z : Int)) = ((e.r - z : Nat) : Int) := by rw [show (e.r : Int) - (z : Int) = ((e.r - z : Nat) : Int) by omega]; exact u64_in _ (by omega)
  have hup : up1 p = p - p / 32 := rfl
  have e5 : IntKind.u16.wrap ((p : Int) - (p : Int) / 32) = ((p - p / 32 : Nat) : Int) := by rw [show (p : Int) - (p : Int) / 32 = ((p - p / 32 : Nat) : Int) by omega]; exact wrapU16 _ (by omega)
  have e6 : IntKind.u16.wrap ((p : Int) / 32) = (p : Int) / 32 := wrapU16 _ (by omega)
  rw [hup]
  have HL := Lib.hid hl
  have hr1 : 65536 ≤ e.r - z := by omega
  clear hB hY hup hz he hn hl hfit
  generalize p - p / 32 = pu at *
  generalize e.r - z = r1 at *
  go_enter Try.func31, Try.ntmps31
  go_wp2_with fail
  refine KA.out.mono ?_
  rintro e' w1 ⟨rfl, cs, hB1, hY1, hn1, hl1, hO1⟩
  have d1 : w1.cell? ⟨g, 1, none⟩ = some (.int .u64 (e.r : Int)) := hB1.cell 1
  have f1 : w1.frozen? ⟨g, 1, none⟩ = false := hB1.free 1
  have hO := (Only.refl (fun i => i = g) w1).setCell (p := ⟨g, 1, none⟩) (.inl rfl) (.int .u64 (r1 : Int))
  have hB2 := hB1.put 1 (.int .u64 (r1 : Int))
  rw [← hl1] at hB2
  have K := Lib.hid (rlevel_any (e := ⟨e.n + z, e.l, r1⟩) (⟨c, cs, hB2, hY1.only hO hqg, hn1, hl1.trans HL.out, hqg⟩ : Rn (w1.setCell ⟨g, 1, none⟩ (.int .u64 (r1 : Int))) g q ⟨e.n + z, e.l, r1⟩) hr1 (by show e.l ≤ _; omega))
  have hsz := hO1.size
  have hs : (w1.setCell ⟨g, 1, none⟩ (.int .u64 (r1 : Int))).heap.size = w1.heap.size := by simp [World.setCell]
  have HS := Lib.hid (show w.heap.size ≤ (w1.setCell ⟨g, 1, none⟩ (.int .u64 (r1 : Int))).heap.size by rw [hs]; exact hsz)
  have HO := Lib.hid ((hO1.mono (fun i hi => .inr hi) : Only (two g q) w w1).trans (hO.mono (fun i hi => .inl hi)))
  clear hB1 hY1 hn1 hl1 hO1 hO hB2 hsz hs h1
  go_wp2_with fail
  refine K.out.mono ?_
  rintro e' w2 ⟨rfl, q', hN, hq, hO2⟩
  have HN := Lib.hid hN
  have HQ := Lib.hid hq
  have HO2 := Lib.hid (HO.out.trans hO2)
  clear hN hq hO2 HO K
  go_wp2_with fail
  go_ret
  refine ⟨rfl, q', HN.out, ?_, HO2.out⟩
  rcases HQ.out with h | h
  · exact .inl h
  · exact .inr (Nat.le_trans HS.out h)

theorem rbit5_any {e : En} {p b : Nat} (h : Rn w g q e) (he : EnOk e) (hp : POk p) (hb : b ≤ 1) (hlen : e.l ≤ 999999999) :
    Calls Try.prog 31 #[.pointer (some ⟨g, 0, none⟩), .int .u16 (p : Int), .int .i64 (b : Int)] w (RnPost5 w g q (.int .u16 (upOf p b : Int)) (e.bit p b)) := by
  unfold upOf En.bit
  by_cases hb0 : b = 0
  · subst hb0
    rw [if_pos rfl, if_pos rfl]
    exact rbit5_zero rfl h he hp hlen
  · obtain rfl : b = 1 := by omega
    rw [if_neg hb0, if_neg hb0]
    exact rbit5_one rfl h he hp hlen
end
end Go.Proofs.Ytokkaidepahepaa
