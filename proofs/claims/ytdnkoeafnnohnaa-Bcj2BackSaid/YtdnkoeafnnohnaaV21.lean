/-
  B2Tell: put together.
-/
import Derived.Test.YtdnkoeafnnohnaaV20
set_option linter.unusedVariables false
set_option linter.unusedSimpArgs false
/-
  The filter decides an instruction, draws a byte, tells the next one.
-/
namespace Go.Proofs.Ytdnkoeafnnohnaa
open Go.RowKit

theorem cell_other {w : World} {a b : Addr} {v : Value} (h : a ≠ b) : (w.setCell a v).cell? b = w.cell? b := World.cell?_setCell_other _ _ _ _ h
theorem addr_ne {b b' i i' : Nat} (h : b = b' → i ≠ i') : (⟨b, i, none⟩ : Addr) ≠ ⟨b', i', none⟩ := by
  intro e
  injection e with e1 e2
  exact h e1 e2

section
variable {w w' : World} {F g : Nat} {S : Nat → Sc} {bs : Nat → List UInt8} {s s' : B2}

theorem b2shut_ok (h : B2Ok s) : B2Ok s.shut := ⟨h.d, h.ps, h.len, h.told, h.ahead, h.num, h.target, h.waits, h.left⟩
theorem Fl.shut (h : Fl w F g S bs s) : Fl (w.setCell ⟨F, 267, none⟩ (.bool false)) F g S bs s.shut :=
  h.own (s' := s.shut) (h.blk.putOpn false) ((Only.refl (fun i => i = F) w).setCell (p := ⟨F, 267, none⟩) (.inl rfl) _) (b2shut_ok h.ok) (fun e => e) rfl rfl
theorem Fl.putTarget (h : Fl w F g S bs s) {x : Nat} (hx : x < 4294967296) : Fl (w.setCell ⟨F, 269, none⟩ (.int .u32 (x : Int))) F g S bs { s with target := x } :=
  h.own (s' := { s with target := x }) (h.blk.putTarget x) ((Only.refl (fun i => i = F) w).setCell (p := ⟨F, 269, none⟩) (.inl rfl) _) ⟨h.ok.d, h.ok.ps, h.ok.len, h.ok.told, h.ok.ahead, h.ok.num, hx, h.ok.waits, h.ok.left⟩ (fun e => e) rfl rfl
theorem Fl.putWaits (h : Fl w F g S bs s) {x : Nat} (hx : x ≤ 4) : Fl (w.setCell ⟨F, 270, none⟩ (.int .i64 (x : Int))) F g S bs { s with waits := x } :=
  h.own (s' := { s with waits := x }) (h.blk.putWaits x) ((Only.refl (fun i => i = F) w).setCell (p := ⟨F, 270, none⟩) (.inl rfl) _) ⟨h.ok.d, h.ok.ps, h.ok.len, h.ok.told, h.ok.ahead, h.ok.num, h.ok.target, hx, h.ok.left⟩ (fun e => e) rfl rfl
theorem Fl.putMark (h : Fl w F g S bs s) {x : Nat} (b : Bool) (hx : x < 258) : Fl ((w.setCell ⟨F, 268, none⟩ (.int .i64 (x : Int))).setCell ⟨F, 267, none⟩ (.bool b)) F g S bs { s with num := x, opn := b } :=
  h.own (s' := { s with num := x, opn := b }) ((h.blk.putNum x).putOpn b) (((Only.refl (fun i => i = F) w).setCell (p := ⟨F, 268, none⟩) (.inl rfl) _).setCell (p := ⟨F, 267, none⟩) (.inl rfl) _) ⟨h.ok.d, h.ok.ps, h.ok.len, h.ok.told, h.ok.ahead, hx, h.ok.target, h.ok.waits, h.ok.left⟩ (fun e => e) rfl rfl

theorem b2_many_keep (k : Nat) (s : B2) : ∀ j, (B2.many k j (0, s)).2.told = s.told ∧ (B2.many k j (0, s)).2.left = s.left ∧ (B2.many k j (0, s)).2.ahead = s.ahead ∧ (B2.many k j (0, s)).2.opn = s.opn ∧ (B2.many k j (0, s)).2.num = s.num ∧ (B2.many k j (0, s)).2.d = s.d ∧ (B2.many k j (0, s)).2.ps = s.ps ∧ (B2.many k j (0, s)).2.waits = s.waits
  | 0 => ⟨rfl, rfl, rfl, rfl, rfl, rfl, rfl, rfl⟩
  | j + 1 => by
    have h := b2_many_keep k s j
    have h2 : ∀ t : B2, (t.read k).2.told = t.told ∧ (t.read k).2.left = t.left ∧ (t.read k).2.ahead = t.ahead ∧ (t.read k).2.opn = t.opn ∧ (t.read k).2.num = t.num ∧ (t.read k).2.d = t.d ∧ (t.read k).2.ps = t.ps ∧ (t.read k).2.waits = t.waits := fun t => by
      unfold B2.read
      split
      · exact ⟨rfl, rfl, rfl, rfl, rfl, rfl, rfl, rfl⟩
      · split
        · exact ⟨rfl, rfl, rfl, rfl, rfl, rfl, rfl, rfl⟩
        · exact ⟨rfl, rfl, rfl, rfl, rfl, rfl, rfl, rfl⟩
    have h3 := h2 (B2.many k j (0, s)).2
    exact ⟨h3.1.trans h.1, h3.2.1.trans h.2.1, h3.2.2.1.trans h.2.2.1, h3.2.2.2.1.trans h.2.2.2.1, h3.2.2.2.2.1.trans h.2.2.2.2.1, h3.2.2.2.2.2.1.trans h.2.2.2.2.2.1, h3.2.2.2.2.2.2.1.trans h.2.2.2.2.2.2.1, h3.2.2.2.2.2.2.2.trans h.2.2.2.2.2.2.2⟩
theorem b2_target (p n : Nat) (hp : p < 4294967296) (hn : n < 4294967296) : IntKind.u32.wrap (IntKind.u32.wrap ((p : Int) - (n : Int)) - 4) = ((wr32 (8589934592 + p - n - 4) : Nat) : Int) := by
  unfold wr32
  simp only [IntKind.wrap, IntKind.bits, IntKind.signed]
  simp
  omega

set_option maxRecDepth 100000 in
set_option maxHeartbeats 4000000 in
theorem b2dec_any (h : Fl w F g S bs s) :
    Calls Try.prog 31 #[.pointer (some ⟨F, 0, none⟩)] w (BPost w F g S bs (.tuple #[]) s.dec) := by
  have c7 := h.blk.opn
  have z7 := h.blk.free 267
  have hf1 := h.shut
  have hO1 := (Only.refl (fun i => i = F) w).setCell (p := ⟨F, 267, none⟩) (.inl rfl) (.bool false)
  have KB := Lib.hid (flbad_any hf1)
  have hbs : s.shut.bad = s.bad := rfl
  rw [hbs] at KB
  have HO1 := Lib.hid (own_fset (g := g) (S := S) hO1)
  have HF1 := Lib.hid hf1
  cases hb : s.bad with
  | true =>
    have he : s.dec = s.shut := by unfold B2.dec; rw [if_pos hb]
    rw [he]
    rw [hb] at KB
    have HBAD := Lib.hid hb
    clear h hf1 hO1 hbs hb he
    go_enter Try.func31, Try.ntmps31
    go_wp2_with fail
    generalize w.setCell ⟨F, 267, none⟩ (.bool false) = w1 at *
    have KBN := Lib.hid (fun n => flbad_any (HF1.out.drewN n))
    rw [show s.shut.bad = true from HBAD.out] at KBN
    go_quiet ((go_at_call 33; exact quiet_same_at (KBN.out _)))
    go_wp2_with fail
    first | go_end0 | refine bodyPost_ret (results_none rfl _ _ _) rfl ?_
    exact ⟨rfl, HF1.out.drewN _, HO1.out.drewN _⟩
  | false =>
    obtain ⟨hd, hdn⟩ := bad_of hb
    have hds : s.shut.dead = false := hd
    rw [hb] at KB
    have c4 := hf1.blk.dec
    have c8 := hf1.blk.num
    obtain ⟨v, hv⟩ : ∃ v, v = s.shut.bit.1 := ⟨_, rfl⟩
    obtain ⟨t, ht⟩ : ∃ t, t = s.shut.bit.2 := ⟨_, rfl⟩
    have KT := Lib.hid (fun n => b2bit_any (hf1.drewN n) hds)
    rw [← hv, ← ht] at KT
    have HTN := Lib.hid (show t.num = s.shut.num by rw [ht]; rfl)
    have n0 : (0 : Int) ≤ (s.shut.num : Int) := by omega
    have n1 : (s.shut.num : Int) < 258 := by have := hf1.ok.num; omega
    have HB := Lib.hid hb
    by_cases hv0 : v = 0
    · have he : s.dec = t := by unfold B2.dec; rw [if_neg (by rw [hb]; simp), ← hv, if_pos hv0, ht]
      rw [he]
      subst hv0
      clear h hO1 hbs hb hd hdn hds hv ht he
      go_enter Try.func31, Try.ntmps31
      go_wp2_with fail
      generalize w.setCell ⟨F, 267, none⟩ (.bool false) = w1 at *
      clear hf1 c7 z7
      have KB := Lib.hid (fun n => flbad_any (HF1.out.drewN n))
      rw [show s.shut.bad = false from HB.out] at KB
      go_region_held3 (fun W => W.cell? ⟨F, 4, none⟩ = some (.pointer (some ⟨g, 0, none⟩)) ∧ W.cell? ⟨F, 268, none⟩ = some (.int .i64 (s.shut.num : Int))) (first | assumption | exact ⟨c4, c8⟩ | exact ⟨d4, d8⟩ | go_keep) (first | (go_at_call 33; refine (KB.out _).mono ?_; rintro e w2 ⟨rfl, rfl⟩) | (go_at_call 48; refine (KT.out _).mono ?_; rintro e w2 ⟨rfl, hf2, ho2⟩; have d4 := hf2.blk.dec; have d8 : w2.cell? ⟨F, 268, none⟩ = some (.int .i64 (s.shut.num : Int)) := HTN.out ▸ hf2.blk.num; have HF2 := Lib.hid (And.intro hf2 (HO1.out.trans (Only.of_drewN ho2))); clear hf2 ho2))
      clear KB KT c4 c8 d4 d8
      go_wp2_with fail
      first | go_end0 | refine bodyPost_ret (results_none rfl _ _ _) rfl ?_
      exact ⟨rfl, HF2.out.1, HF2.out.2⟩
    · have hv1 : ((v : Int) == 0) = false := by simp; omega
      have hl : t.left = s.left := by rw [ht]; rfl
      by_cases h4 : s.left < 4
      · have he : s.dec = { t with dead := true } := by unfold B2.dec; rw [if_neg (by rw [hb]; simp), ← hv, if_neg hv0, if_pos h4, ht]
        have hl4 : (t.left : Int) < 4 := by omega
        rw [he]
        clear h hO1 hbs hb hd hdn hds hv ht he hv0
        go_enter Try.func31, Try.ntmps31
        go_wp2_with fail
        generalize w.setCell ⟨F, 267, none⟩ (.bool false) = w1 at *
        clear hf1 c7 z7
        have KB := Lib.hid (fun n => flbad_any (HF1.out.drewN n))
        rw [show s.shut.bad = false from HB.out] at KB
        go_region_held3 (fun W => W.cell? ⟨F, 4, none⟩ = some (.pointer (some ⟨g, 0, none⟩)) ∧ W.cell? ⟨F, 268, none⟩ = some (.int .i64 (s.shut.num : Int))) (first | assumption | exact ⟨c4, c8⟩ | exact ⟨d4, d8⟩ | go_keep) (first | (go_at_call 33; refine (KB.out _).mono ?_; rintro e w2 ⟨rfl, rfl⟩) | (go_at_call 48; refine (KT.out _).mono ?_; rintro e w2 ⟨rfl, hf2, ho2⟩; have d4 := hf2.blk.dec; have d8 : w2.cell? ⟨F, 268, none⟩ = some (.int .i64 (s.shut.num : Int)) := HTN.out ▸ hf2.blk.num; have HF2 := Lib.hid (And.intro hf2 (HO1.out.trans (Only.of_drewN ho2))); clear hf2 ho2))
        clear KB KT c4 c8 d4 d8
        have c64 := HF2.out.1.blk.left
        have c63 := HF2.out.1.blk.dead
        have z63 := HF2.out.1.blk.free 263
        go_wp2_with fail
        first | go_end0 | refine bodyPost_ret (results_none rfl _ _ _) rfl ?_
        exact ⟨rfl, HF2.out.1.die, HF2.out.2.setCell (.inl (.inl rfl)) _⟩
      · have he : s.dec = B2.put4 t.place := by unfold B2.dec; rw [if_neg (by rw [hb]; simp), ← hv, if_neg hv0, if_neg h4, ht]
        have hl4 : ¬ (t.left : Int) < 4 := by omega
        rw [he]
        clear h hO1 hbs hb hd hdn hds hv ht he hv0
        go_enter Try.func31, Try.ntmps31
        go_wp2_with fail
        generalize w.setCell ⟨F, 267, none⟩ (.bool false) = w1 at *
        clear hf1 c7 z7
        have KB := Lib.hid (fun n => flbad_any (HF1.out.drewN n))
        rw [show s.shut.bad = false from HB.out] at KB
        go_region_held3 (fun W => W.cell? ⟨F, 4, none⟩ = some (.pointer (some ⟨g, 0, none⟩)) ∧ W.cell? ⟨F, 268, none⟩ = some (.int .i64 (s.shut.num : Int))) (first | assumption | exact ⟨c4, c8⟩ | exact ⟨d4, d8⟩ | go_keep) (first | (go_at_call 33; refine (KB.out _).mono ?_; rintro e w2 ⟨rfl, rfl⟩) | (go_at_call 48; refine (KT.out _).mono ?_; rintro e w2 ⟨rfl, hf2, ho2⟩; have d4 := hf2.blk.dec; have d8 : w2.cell? ⟨F, 268, none⟩ = some (.int .i64 (s.shut.num : Int)) := HTN.out ▸ hf2.blk.num; have HF2 := Lib.hid (And.intro hf2 (HO1.out.trans (Only.of_drewN ho2))); clear hf2 ho2))
        clear KB KT c4 c8 d4 d8
        have c64 := HF2.out.1.blk.left
        have KP := Lib.hid (fun n => b2place_any (HF2.out.1.drewN n))
        have hkeep := b2_many_keep t.strm t 4
        have hpl : t.place = B2.many t.strm 4 (0, t) := rfl
        rw [← hpl] at hkeep
        have hp1 : t.place.1 < 4294967296 := by have := b2_many_lt t.strm t 4; rw [← hpl] at this; omega
        have hto : t.told < 4294967296 := HF2.out.1.ok.told
        have HE := Lib.hid (b2_target t.place.1 t.told hp1 hto)
        have HPT := Lib.hid hkeep.1
        have c65 := HF2.out.1.blk.told
        have HP4 := Lib.hid (show B2.put4 t.place = { t.place.2 with target := wr32 (8589934592 + t.place.1 - t.place.2.told - 4), waits := 4 } from rfl)
        rw [hkeep.1] at HP4
        obtain ⟨y, hy⟩ : ∃ y, y = wr32 (8589934592 + t.place.1 - t.told - 4) := ⟨_, rfl⟩
        rw [← hy] at HP4 HE
        have HY := Lib.hid (show y < 4294967296 by rw [hy]; exact b2_wr _)
        clear hy hpl hkeep hp1 hto
        generalize t.place = u at *
        go_wp2_with fail
        have he2 := HE.out
        clear HE
        go_region_held3 (fun W => W.cell? ⟨F, 265, none⟩ = some (.int .u32 (t.told : Int))) (first | assumption | exact c65 | exact d65 | exact (cell_other (addr_ne fun _ => (by decide : (269 : Nat) ≠ 265))).trans d65 | go_keep) (first | (go_at_call 49; refine (KP.out _).mono ?_; rintro e w3 ⟨rfl, hf3, ho3⟩; have d65 : w3.cell? ⟨F, 265, none⟩ = some (.int .u32 (t.told : Int)) := HPT.out ▸ hf3.blk.told; have d69 := hf3.blk.target; have z69 := hf3.blk.free 269; have HF3 := Lib.hid (And.intro hf3 (HF2.out.2.trans (Only.of_drewN ho3))); clear hf3 ho3))
        clear KP c65 d65 he2 c64
        have HF4 := Lib.hid (And.intro (HF3.out.1.putTarget HY.out) (HF3.out.2.setCell (p := ⟨F, 269, none⟩) (.inl (.inl rfl)) (.int .u32 (y : Int))))
        clear HF3 d69 z69
        generalize w3.setCell ⟨F, 269, none⟩ (.int .u32 (y : Int)) = w4 at *
        have c70 := HF4.out.1.blk.waits
        have z70 := HF4.out.1.blk.free 270
        go_wp2_with fail
        first | go_end0 | refine bodyPost_ret (results_none rfl _ _ _) rfl ?_
        rw [HP4.out]
        exact ⟨rfl, HF4.out.1.putWaits (x := 4) (by omega), HF4.out.2.setCell (.inl (.inl rfl)) _⟩

set_option maxRecDepth 100000 in
set_option maxHeartbeats 4000000 in
/-- A byte is drawn. -/
theorem b2draw_any (h : Fl w F g S bs s) :
    Calls Try.prog 32 #[.pointer (some ⟨F, 0, none⟩)] w (BPost w F g S bs (.int .u8 (s.draw.1 : Int)) s.draw.2) := by
  have c70 := h.blk.waits
  by_cases h0 : s.waits = 0
  · have he : s.draw = ((s.read 0).1, { (s.read 0).2 with num := ((mark s.ahead (s.read 0).1).getD 0), opn := (mark s.ahead (s.read 0).1).isSome }) := by unfold B2.draw; rw [if_pos h0]
    have K := Lib.hid (b2read_any (k := 0) (by omega) h)
    have hx := b2_read_lt s 0
    have hah : (s.read 0).2.ahead = s.ahead := (b2_many_keep 0 s 1).2.2.1
    have ha := h.ok.ahead
    obtain ⟨u, hu⟩ : ∃ u, u = s.read 0 := ⟨_, rfl⟩
    rw [← hu] at K hx he hah
    rw [he]
    rw [h0] at c70
    have hml : (mark s.ahead u.1).getD 0 < 258 := by
      cases hm : mark s.ahead u.1 with
      | none => simp
      | some i => exact mark_lt ha hm
    have HML := Lib.hid (And.intro hml hah)
    have KC := Lib.hid (chance_any (a := s.ahead) (x := u.1) ha hx)
    unfold markV at KC
    generalize (mark s.ahead u.1).getD 0 = m at *
    generalize (mark s.ahead u.1).isSome = b at *
    clear h h0 hu he hml hx ha hah
    go_enter Try.func32, Try.ntmps32
    go_wp2_with fail
    refine K.out.mono ?_
    rintro e w1 ⟨rfl, hf1, ho1⟩
    have c66 : w1.cell? ⟨F, 266, none⟩ = some (.int .u8 (s.ahead : Int)) := HML.out.2 ▸ hf1.blk.ahead
    have c67 := hf1.blk.opn
    have c68 := hf1.blk.num
    have z67 := hf1.blk.free 267
    have z68 := hf1.blk.free 268
    have HF := Lib.hid (And.intro hf1 ho1)
    clear hf1 ho1 K c70
    go_wp2_with fail
    refine (KC.out _).mono ?_
    rintro e w2 ⟨rfl, rfl⟩
    go_wp2_with fail
    go_ret
    exact ⟨rfl, HF.out.1.putMark _ HML.out.1, (HF.out.2.setCell (.inl (.inl rfl)) _).setCell (.inl (.inl rfl)) _⟩
  · have he : s.draw = (s.target % 256, { s with target := s.target / 256, waits := s.waits - 1 }) := by unfold B2.draw; rw [if_neg h0]
    have hw : ((s.waits : Int) == 0) = false := by simp; omega
    have hw1 : IntKind.i64.wrap ((s.waits : Int) - 1) = ((s.waits - 1 : Nat) : Int) := by rw [show (s.waits : Int) - 1 = ((s.waits - 1 : Nat) : Int) by omega]; exact IntWalk.i64_in _ (by have := h.ok.waits; omega)
    have ht := h.ok.target
    obtain ⟨y, hy⟩ : ∃ y, y = s.target / 256 := ⟨_, rfl⟩
    obtain ⟨z, hz⟩ : ∃ z, z = s.target % 256 := ⟨_, rfl⟩
    have e1 : (s.target : Int) % 256 = (z : Int) := by omega
    have e2 : (s.target : Int) / 256 = (y : Int) := by omega
    have HY := Lib.hid (show y < 4294967296 by omega)
    rw [← hy, ← hz] at he
    clear hy hz
    have t0 : (0 : Int) ≤ (s.target : Int) := by omega
    have c69 := h.blk.target
    have z69 := h.blk.free 269
    have z70 := h.blk.free 270
    rw [he]
    have HF := Lib.hid ((h.putTarget (x := y) HY.out).putWaits (x := s.waits - 1) (by have := h.ok.waits; show s.waits - 1 ≤ 4; omega))
    clear h h0 he ht
    go_enter Try.func32, Try.ntmps32
    go_wp2_with fail
    go_ret
    exact ⟨rfl, HF.out, ((Only.refl _ w).setCell (.inl (.inl rfl)) _).setCell (.inl (.inl rfl)) _⟩
end
end Go.Proofs.Ytdnkoeafnnohnaa
