/-
  The program's window keeps what the laws lean on.
-/
import Derived.Test.YtnokbibkjhhcoaaWnOne
namespace Go.Proofs.Ytnokbibkjhhcoaa
open Go.RowKit

section
variable {w w' : World} {g m : Nat} {G : Nat → Prop} {s : Ws}

set_option maxHeartbeats 2000000 in
theorem wcopy_any {d : Int} (h : Pwin w g G m s) (hz : s.sz ≤ 1048576) (hl : s.l.length ≤ 1000000000) :
    Calls Try.prog 14 #[.pointer (some ⟨g, 0, none⟩), .int .i64 d] w (OwnPost (fun w' G' => Pwin w' g G' m (s.copy d)) w G (.int .u8 ((s.at_ d).toNat : Int))) := by
  have K := Lib.hid (whas_any (d := d) h)
  by_cases hh : s.has d = true
  · have KA := Lib.hid (wat_any (d := d) h hz)
    have KP := Lib.hid (fun n => wput_any (w := w.drewN n) (b := s.at_ d) h hz hl)
    rw [show s.copy d = s.put (s.at_ d) by unfold Ws.copy; rw [if_pos hh]]
    rw [hh] at K
    clear h hh hz hl
    generalize s.at_ d = x at *
    go_enter Try.func14, Try.ntmps14
    go_wp2_with fail
    refine K.out.mono ?_
    rintro y w1 ⟨rfl, rfl⟩
    clear K
    go_wp2_with fail
    refine KA.out.mono ?_
    rintro y w1 ⟨rfl, k, rfl⟩
    clear KA
    go_wp2_with fail
    refine (KP.out _).mono ?_
    rintro y w2 ⟨rfl, G2, hP, hG, hO⟩
    have HE := Lib.hid (And.intro hP (And.intro hG (Only.of_drewN hO)))
    clear hP hG hO KP
    go_wp2_with fail
    go_ret
    exact ⟨rfl, G2, HE.out.1, HE.out.2.1, HE.out.2.2⟩
  · have hf : s.has d = false := by simpa using hh
    rw [show s.copy d = s by unfold Ws.copy; rw [if_neg hh], at_not hf]
    rw [hf] at K
    have HX := Lib.hid h
    clear h hh hf hz hl
    go_enter Try.func14, Try.ntmps14
    go_wp2_with fail
    refine K.out.mono ?_
    rintro y w1 ⟨rfl, rfl⟩
    clear K
    go_wp2_with fail
    go_ret
    exact ⟨rfl, G, HX.out, fun i hi => .inl hi, Only.refl _ _⟩

set_option maxHeartbeats 1000000 in
theorem wnew7_any {q : Quo} {t : Tel} {n : Int} (hM : MeterAt w 60 m q t) (hF : Fine q t) (h0 : -9223372036854775808 ≤ n) (h1 : n ≤ 1048576) (hfit : fits t.code t.mem q.mem (max n 1)) :
    Calls Try.prog 8 #[.int .i64 n, .pointer (some ⟨m, 0, none⟩)] w fun x w' =>
      ∃ g G, x = .returned (.tuple #[.pointer (some ⟨g, 0, none⟩), .int .i64 0]) ∧ Pwin w' g G m (Ws.new n) ∧ MeterAt w' 60 m q (t.doMem q (max n 1)) ∧ (∀ i, G i → w.heap.size ≤ i) ∧ Only (fun i => i = m) w w' := by
  have K := Lib.hid (mem_any hM hF (max n 1))
  have hd : decide (fits t.code t.mem q.mem (max n 1)) = true := by simp [hfit]
  rw [hd] at K
  have hend : ∀ w1 : World, MeterAt w1 60 m q (t.doMem q (max n 1)) → w.grownBy w1 (some m) →
      Pwin (w1.alloc (.cells #[.int .i64 (max n 1), .slice none 0 0, .int .i64 0, .int .i64 0, .pointer (some ⟨m, 0, none⟩)] 53)) w1.heap.size (fun i => i = w1.heap.size) m (Ws.new n) ∧
        MeterAt (w1.alloc (.cells #[.int .i64 (max n 1), .slice none 0 0, .int .i64 0, .int .i64 0, .pointer (some ⟨m, 0, none⟩)] 53)) 60 m q (t.doMem q (max n 1)) ∧ (∀ i, i = w1.heap.size → w.heap.size ≤ i) ∧
        Only (fun i => i = m) w (w1.alloc (.cells #[.int .i64 (max n 1), .slice none 0 0, .int .i64 0, .int .i64 0, .pointer (some ⟨m, 0, none⟩)] 53)) := by
    intro w1 hM1 hg
    refine ⟨.inl ⟨[], rfl, ring_new h1, rfl, ?_, none, 0, ?_, .inl ⟨rfl, rfl, rfl⟩⟩, hM1.alloc _, ?_, (Only.of_grown (S := fun i => i = m) hg rfl).alloc _⟩
    · rintro i rfl
      simp
    · have e : (((Ws.new n).sz : Nat) : Int) = max n 1 := by show (((max n 1).toNat : Nat) : Int) = _; omega
      have e2 : (Ws.new n).l.length % (Ws.new n).sz = 0 := Nat.zero_mod _
      have e3 : (Ws.new n).count = 0 := by unfold Ws.count Ws.new; simp
      rw [e, e2, e3]
      exact Blk.fresh w1 _ _
    · rintro i rfl
      exact hg.size
  have HE := Lib.hid hend
  clear hend hM hF h0 h1 hfit hd
  go_enter Try.func8, Try.ntmps8
  go_wp2_with fail
  refine K.out.mono ?_
  rintro y w1 ⟨rfl, hM1, hg⟩
  have HX := Lib.hid (HE.out w1 hM1 hg)
  clear hM1 hg K HE
  go_wp2_with fail
  go_ret2
  exact ⟨_, _, rfl, HX.out.1, HX.out.2.1, HX.out.2.2.1, HX.out.2.2.2⟩

set_option maxHeartbeats 1000000 in
theorem wshort7_any {q : Quo} {t : Tel} {n : Int} (hM : MeterAt w 60 m q t) (hF : Fine q t) (hfit : ¬ fits t.code t.mem q.mem (max n 1)) :
    Calls Try.prog 8 #[.int .i64 n, .pointer (some ⟨m, 0, none⟩)] w fun x w' =>
      x = .returned (.tuple #[.pointer none, .int .i64 (t.doMem q (max n 1)).code]) ∧ MeterAt w' 60 m q (t.doMem q (max n 1)) ∧ Only (fun i => i = m) w w' := by
  have K := Lib.hid (mem_any hM hF (max n 1))
  have hd : decide (fits t.code t.mem q.mem (max n 1)) = false := by simp [hfit]
  rw [hd] at K
  obtain ⟨cd, hcd⟩ : ∃ cd, cd = (t.doMem q (max n 1)).code := ⟨_, rfl⟩
  rw [← hcd]
  have HC := Lib.hid hcd
  clear hM hF hfit hd hcd
  go_enter Try.func8, Try.ntmps8
  go_wp2_with fail
  refine K.out.mono ?_
  rintro y w1 ⟨rfl, hM1, hg⟩
  have KC := mcode_any hM1
  rw [← HC.out] at KC
  have HX := Lib.hid (And.intro hM1 (Only.of_grown (S := fun i => i = m) hg rfl))
  clear hM1 hg K HC
  go_wp2_with fail
  refine KC.mono ?_
  rintro y w2 ⟨rfl, rfl⟩
  clear KC
  go_wp2_with fail
  go_ret2
  exact ⟨rfl, HX.out.1, HX.out.2⟩
end

/-- The program's window keeps what the laws lean on. -/
theorem win_con : WinCon Pwin where
  old h hi := h.old hi
  only h hb hS := h.only hb hS
  new hM hF h0 h1 hfit := wnew7_any hM hF h0 h1 hfit
  short hM hF _ _ hfit := wshort7_any hM hF hfit
  put h hz hl := wput_any h hz hl
  copy h hz hl _ _ := wcopy_any h hz hl
  empty h _ := wempty_any h
  close h hz hM hF hm := wclose_any h hz hM hF hm
  has h _ _ _ := (whas_any h).mono fun _ _ ⟨he, hm⟩ => ⟨he, 0, hm⟩
  at_ h hz _ _ := wat_any h hz
  count h _ := (wcount_any h).mono fun _ _ ⟨he, hm⟩ => ⟨he, 0, hm⟩
end Go.Proofs.Ytnokbibkjhhcoaa
