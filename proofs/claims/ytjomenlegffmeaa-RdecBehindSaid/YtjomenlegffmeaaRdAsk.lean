/-
  A question is asked of a decoder.
-/
import Derived.Test.YtjomenlegffmeaaRdRight
namespace Go.Proofs.Ytjomenlegffmeaa
open Go.RowKit

/-- What a question leaves. -/
def AskPost (w : World) (g f lo b : Nat) (bs : List UInt8) (ps : List Nat) (pc v : Nat) (d : Dc) (e : Ending) (w' : World) : Prop :=
  e = .returned (.int .u32 (v : Int)) ∧ Pd w' g f lo bs d ∧ Row w' b ps pc ∧ Only (three f g b) w w'

section
variable {g f lo b pc : Nat} {w : World} {bs : List UInt8} {ps : List Nat} {d : Dc}

set_option maxHeartbeats 2000000 in
theorem ask_bit {a : Nat} {n v : Int} (h : Pd w g f lo bs d) (hd : DcOk d) (hR : Row w b ps pc) (hps : PsOk ps) (hb : b < lo ∨ g < b) (ha : a < ps.length) (hl : ps.length = 600) :
    Calls Try.prog 15 #[.pointer (some ⟨g, 0, none⟩), .slice (some ⟨b, 0, none⟩) 600 pc, .agg #[.int .i64 0, .int .i64 (a : Int), .int .i64 n, .int .u32 v]] w
      (AskPost w g f lo b bs (ps.set a (bitD d (ps.getD a 0)).2.1) pc (bitD d (ps.getD a 0)).1 (bitD d (ps.getD a 0)).2.2) := by
  have hO := (Only.refl (three f g b) w).alloc (.cells #[.int .i64 0, .int .i64 (a : Int), .int .i64 n, .int .u32 v] 36)
  have hOF := (Only.refl (fun _ => False) w).alloc (.cells #[.int .i64 0, .int .i64 (a : Int), .int .i64 n, .int .u32 v] 36)
  have K := Lib.hid (tell_any (h.only hOF (fun i hi => hi.elim)) hd (hR.only hOF (fun h => h)) ha hb (getD_ok hps ha))
  have HO := Lib.hid hO
  have hu := (bitD_ok hd (getD_ok hps ha)).1
  generalize (bitD d (ps.getD a 0)).1 = u at *
  have e1 : IntKind.u32.wrap (u : Int) = (u : Int) := u32_of _ (by omega) (by omega)
  have ha1 : (a : Int) < 600 := by omega
  have ha0 : (0 : Int) ≤ (a : Int) := by omega
  clear h hd hR hps hb hO hOF
  go_enter Try.func15, Try.ntmps15
  go_wp2_with (go_at_call 21; refine K.out.mono ?_; rintro e w1 ⟨rfl, hp1, hr1, ho1⟩; have HP1 := Lib.hid hp1; have HR1 := Lib.hid hr1; have HO1 := Lib.hid (HO.out.trans ho1); clear hp1 hr1 ho1 HO K)
  go_ret
  exact ⟨rfl, HP1.out, HR1.out, HO1.out⟩

set_option maxHeartbeats 2000000 in
theorem ask_tree {a n : Nat} {v : Int} {x : Nat} (hx : x = if (Tr.go a (Tr.begin ps d) n).d = none then 0 else (Tr.go a (Tr.begin ps d) n).m - 2 ^ n) (hxl : x < 256)
    (h : Pd w g f lo bs d) (hd : DcOk d) (hR : Row w b ps pc) (hps : PsOk ps) (hb : b < lo ∨ g < b) (ha : a < 340) (hn : n ≤ 8) (hl : ps.length = 600) :
    Calls Try.prog 15 #[.pointer (some ⟨g, 0, none⟩), .slice (some ⟨b, 0, none⟩) 600 pc, .agg #[.int .i64 1, .int .i64 (a : Int), .int .i64 (n : Int), .int .u32 v]] w
      (AskPost w g f lo b bs (Tr.go a (Tr.begin ps d) n).ps pc x (Tr.go a (Tr.begin ps d) n).d) := by
  have hO := (Only.refl (three f g b) w).alloc (.cells #[.int .i64 1, .int .i64 (a : Int), .int .i64 (n : Int), .int .u32 v] 36)
  have hOF := (Only.refl (fun _ => False) w).alloc (.cells #[.int .i64 1, .int .i64 (a : Int), .int .i64 (n : Int), .int .u32 v] 36)
  have hx1 : (w.alloc (.cells #[.int .i64 1, .int .i64 (a : Int), .int .i64 (n : Int), .int .u32 v] 36)).cell? ⟨w.heap.size, 1, none⟩ = some (.int .i64 (a : Int)) := (Blk.fresh w _ _).cell 1
  have hx2 : (w.alloc (.cells #[.int .i64 1, .int .i64 (a : Int), .int .i64 (n : Int), .int .u32 v] 36)).cell? ⟨w.heap.size, 2, none⟩ = some (.int .i64 (n : Int)) := (Blk.fresh w _ _).cell 2
  have hsz : w.heap.size < (w.alloc (.cells #[.int .i64 1, .int .i64 (a : Int), .int .i64 (n : Int), .int .u32 v] 36)).heap.size := (Blk.fresh w _ _).lt
  have HX1 := Lib.hid hx1
  have HX2 := Lib.hid hx2
  have HSZ := Lib.hid hsz
  have h8 := pow8 hn
  have hcap := hR.cap
  rw [hl] at hcap
  have hnb : ∀ i, three f g b i → i ≠ w.heap.size := fun i hi => by
    have := h.lt
    have := h.lo
    have := hR.lt
    rcases hi with hi | hi | hi <;> omega
  have HNB := Lib.hid hnb
  have K := Lib.hid (fun cap m => tree_any (len := 600 - a) (cap := cap) hx ((h.only hOF (fun i hi => hi.elim)).drewN m) hd ((hR.only hOF (fun h => h)).drewN m) hps hb (by omega) (by omega) hn)
  have HO := Lib.hid (fun m => hO.drewN m)
  have e1 : IntKind.u32.wrap (x : Int) = (x : Int) := u32_of _ (by omega) (by omega)
  have ha0 : (0 : Int) ≤ (a : Int) := by omega
  have hne : ¬ pc = a := by omega
  have ha1 : (a : Int) ≤ (600 : Int) := by omega
  have hc6 : (600 : Int) ≤ (pc : Int) := by omega
  clear h hd hR hps hb hO hOF hx hcap hx1 hx2 hsz hnb
  go_enter Try.func15, Try.ntmps15
  go_wp2_with fail
  have hx1 := HX1.out
  have hx2 := HX2.out
  clear HX1 HX2
  generalize (w.alloc (.cells #[.int .i64 1, .int .i64 (a : Int), .int .i64 (n : Int), .int .u32 v] 36)) = w0 at *
  generalize w.heap.size = B at *
  go_still_tail 7, (by kernel_rfl)
  change wpList _ _ _ _ _ w0.drew
  go_wp2_with (go_at_call 26; refine (K.out _ 1).mono ?_; rintro e w1 ⟨rfl, hp1, hr1, ho1⟩; have HP1 := Lib.hid hp1; have HR1 := Lib.hid hr1; have HO1 := Lib.hid ((HO.out 1).trans ho1); clear hp1 hr1 ho1 HO K)
  go_ret
  exact ⟨rfl, HP1.out, HR1.out, HO1.out⟩

set_option maxHeartbeats 2000000 in
theorem ask_rev {a n : Nat} {v : Int} {x : Nat} (hx : x = if (Tr.go a (Tr.begin ps d) n).d = none then 0 else (Tr.go a (Tr.begin ps d) n).o) (hxl : x < 256)
    (h : Pd w g f lo bs d) (hd : DcOk d) (hR : Row w b ps pc) (hps : PsOk ps) (hb : b < lo ∨ g < b) (ha : a < 340) (hn : n ≤ 8) (hl : ps.length = 600) :
    Calls Try.prog 15 #[.pointer (some ⟨g, 0, none⟩), .slice (some ⟨b, 0, none⟩) 600 pc, .agg #[.int .i64 2, .int .i64 (a : Int), .int .i64 (n : Int), .int .u32 v]] w
      (AskPost w g f lo b bs (Tr.go a (Tr.begin ps d) n).ps pc x (Tr.go a (Tr.begin ps d) n).d) := by
  have hO := (Only.refl (three f g b) w).alloc (.cells #[.int .i64 2, .int .i64 (a : Int), .int .i64 (n : Int), .int .u32 v] 36)
  have hOF := (Only.refl (fun _ => False) w).alloc (.cells #[.int .i64 2, .int .i64 (a : Int), .int .i64 (n : Int), .int .u32 v] 36)
  have hx1 : (w.alloc (.cells #[.int .i64 2, .int .i64 (a : Int), .int .i64 (n : Int), .int .u32 v] 36)).cell? ⟨w.heap.size, 1, none⟩ = some (.int .i64 (a : Int)) := (Blk.fresh w _ _).cell 1
  have hx2 : (w.alloc (.cells #[.int .i64 2, .int .i64 (a : Int), .int .i64 (n : Int), .int .u32 v] 36)).cell? ⟨w.heap.size, 2, none⟩ = some (.int .i64 (n : Int)) := (Blk.fresh w _ _).cell 2
  have hsz : w.heap.size < (w.alloc (.cells #[.int .i64 2, .int .i64 (a : Int), .int .i64 (n : Int), .int .u32 v] 36)).heap.size := (Blk.fresh w _ _).lt
  have HX1 := Lib.hid hx1
  have HX2 := Lib.hid hx2
  have HSZ := Lib.hid hsz
  have h8 := pow8 hn
  have hcap := hR.cap
  rw [hl] at hcap
  have hnb : ∀ i, three f g b i → i ≠ w.heap.size := fun i hi => by
    have := h.lt
    have := h.lo
    have := hR.lt
    rcases hi with hi | hi | hi <;> omega
  have HNB := Lib.hid hnb
  have K := Lib.hid (fun cap m => rev_any (len := 600 - a) (cap := cap) hx ((h.only hOF (fun i hi => hi.elim)).drewN m) hd ((hR.only hOF (fun h => h)).drewN m) hps hb (by omega) (by omega) hn)
  have HO := Lib.hid (fun m => hO.drewN m)
  have e1 : IntKind.u32.wrap (x : Int) = (x : Int) := u32_of _ (by omega) (by omega)
  have ha0 : (0 : Int) ≤ (a : Int) := by omega
  have hne : ¬ pc = a := by omega
  have ha1 : (a : Int) ≤ (600 : Int) := by omega
  have hc6 : (600 : Int) ≤ (pc : Int) := by omega
  clear h hd hR hps hb hO hOF hx hcap hx1 hx2 hsz hnb
  go_enter Try.func15, Try.ntmps15
  go_wp2_with fail
  have hx1 := HX1.out
  have hx2 := HX2.out
  clear HX1 HX2
  generalize (w.alloc (.cells #[.int .i64 2, .int .i64 (a : Int), .int .i64 (n : Int), .int .u32 v] 36)) = w0 at *
  generalize w.heap.size = B at *
  go_still_tail 7, (by kernel_rfl)
  change wpList _ _ _ _ _ w0.drew
  go_wp2_with (go_at_call 27; refine (K.out _ 1).mono ?_; rintro e w1 ⟨rfl, hp1, hr1, ho1⟩; have HP1 := Lib.hid hp1; have HR1 := Lib.hid hr1; have HO1 := Lib.hid ((HO.out 1).trans ho1); clear hp1 hr1 ho1 HO K)
  go_ret
  exact ⟨rfl, HP1.out, HR1.out, HO1.out⟩

set_option maxHeartbeats 2000000 in
theorem ask_straight {a v : Int} {n : Nat} (h : Pd w g f lo bs d) (hd : DcOk d) (hR : Row w b ps pc) (hn : n ≤ 32) (hb : b < lo ∨ g < b) :
    Calls Try.prog 15 #[.pointer (some ⟨g, 0, none⟩), .slice (some ⟨b, 0, none⟩) 600 pc, .agg #[.int .i64 3, .int .i64 a, .int .i64 (n : Int), .int .u32 v]] w
      (AskPost w g f lo b bs ps pc (straightD n d).1 (straightD n d).2) := by
  have hO := (Only.refl (three f g b) w).alloc (.cells #[.int .i64 3, .int .i64 a, .int .i64 (n : Int), .int .u32 v] 36)
  have hOF := (Only.refl (fun _ => False) w).alloc (.cells #[.int .i64 3, .int .i64 a, .int .i64 (n : Int), .int .u32 v] 36)
  have K := Lib.hid (straight_any (h.only hOF (fun i hi => hi.elim)) hd hn)
  have HO := Lib.hid hO
  have HR := Lib.hid (hR.only hOF (fun h => h))
  have HNB := Lib.hid (show ¬ two f g b by
    have := h.lo
    intro hb2
    rcases hb2 with hb2 | hb2 <;> omega)
  clear h hd hR hO hOF hb
  generalize (straightD n d).1 = x at *
  go_enter Try.func15, Try.ntmps15
  go_wp2_with (go_at_call 28; refine K.out.mono ?_; rintro e w1 ⟨rfl, hp1, ho1⟩; have HP1 := Lib.hid hp1; have HR1 := Lib.hid (HR.out.only ho1 HNB.out); have HO1 := Lib.hid (HO.out.trans (ho1.mono fun i hi => two_three hi)); clear hp1 ho1 HO K HR)
  go_ret
  exact ⟨rfl, HP1.out, HR1.out, HO1.out⟩
end

/-- Whatever may be asked. -/
theorem ask_any {g f lo b pc : Nat} {w : World} {bs : List UInt8} {ps : List Nat} {d : Dc} {q : Qn} (h : Pd w g f lo bs d) (hd : DcOk d) (hR : Row w b ps pc) (hps : PsOk ps) (hl : ps.length = 600) (hb : b < lo ∨ g < b) (hq : RightQ q) :
    Calls Try.prog 15 #[.pointer (some ⟨g, 0, none⟩), .slice (some ⟨b, 0, none⟩) 600 pc, .agg (qnArr q)] w
      (AskPost w g f lo b bs (askD ps d q.k.toNat q.a.toNat q.n.toNat).2.1 pc (askD ps d q.k.toNat q.a.toNat q.n.toNat).1 (askD ps d q.k.toNat q.a.toNat q.n.toNat).2.2) := by
  have hok := askD_ok (rightD_of hq) hd hps hl
  obtain ⟨k, a, n, v⟩ := q
  unfold qnArr
  simp only [] at hok ⊢
  unfold askD at hok ⊢
  rcases hq with ⟨rfl, h0, h1⟩ | ⟨hk, h0, h1, h2, h3⟩ | ⟨rfl, h0, h1⟩
  · obtain ⟨a, rfl⟩ := Int.eq_ofNat_of_zero_le h0
    exact ask_bit h hd hR hps hb (by simp only [] at h1; omega) hl
  · obtain ⟨a, rfl⟩ := Int.eq_ofNat_of_zero_le h0
    obtain ⟨n, rfl⟩ := Int.eq_ofNat_of_zero_le (show 0 ≤ n by simp only [] at h2; omega)
    simp only [] at h1 h2 h3 hk
    rcases hk with rfl | rfl
    · have h2n := hok.2.2.2.2 (by decide)
      have hx : (if (Tr.go a (Tr.begin ps d) n).d = none then 0 else (Tr.go a (Tr.begin ps d) n).m - 2 ^ n) < 2 ^ n := h2n
      have := pow8 (n := n) (by omega)
      exact ask_tree rfl (Nat.lt_of_lt_of_le hx this) h hd hR hps hb (by omega) (by omega) hl
    · have h2n := hok.2.2.2.2 (by decide)
      have hx : (if (Tr.go a (Tr.begin ps d) n).d = none then 0 else (Tr.go a (Tr.begin ps d) n).o) < 2 ^ n := h2n
      have := pow8 (n := n) (by omega)
      exact ask_rev rfl (Nat.lt_of_lt_of_le hx this) h hd hR hps hb (by omega) (by omega) hl
  · obtain ⟨n, rfl⟩ := Int.eq_ofNat_of_zero_le h0
    exact ask_straight h hd hR (by simp only [] at h1; omega) hb
end Go.Proofs.Ytjomenlegffmeaa
