/-
  CwMove: put together.
-/
import Derived.Test.YtdhhibfppcpieaaQ13
import Derived.Test.YtdhhibfppcpieaaQ11
set_option linter.unusedVariables false
set_option linter.unusedSimpArgs false
/-
  The program's coder of LZMA: a match, a length by an elder distance, copied bytes.
-/
namespace Go.Proofs.Ytdhhibfppcpieaa
open Go.RowKit

section
variable {K : Koc} {w w' : World} {Ge Ge' : Option Nat} {A' : Option Addr} {c : Nat} {z : Lzs} {k : Nat} {t : Pm En}

set_option maxRecDepth 100000 in
set_option maxHeartbeats 8000000 in
/-- The coder codes a length and a new distance. -/
theorem cmatch_any {n d s : Nat} (h : Cw K w Ge A' c z (k + 22) t) (hp : z.pb ≤ 4) (ho : z.out.length ≤ 1000000) (hs : s = z.out.length % 2 ^ z.pb) (hn : 2 ≤ n) (hn2 : n ≤ 273) (hd : d < 4294967296) :
    Calls Try.prog 56 #[.pointer (some ⟨K.g, 0, none⟩), .int .i64 (n : Int), .int .u32 (d : Int)] w (CMid K w Ge (.tuple #[]) A' c { z with r0 := d, r1 := z.r0, r2 := z.r1, r3 := z.r2, st := aft 7 10 z.st } k (distP encM (lenP encM t 819 s ((n - 2 : Nat) : Int)).2 (n - 2) d).2) := by
  obtain ⟨l, hl⟩ : ∃ l, l = n - 2 := ⟨_, rfl⟩
  rw [← hl]
  have e1 : IntKind.i64.wrap ((n : Int) - 2) = (l : Int) := by rw [show (n : Int) - 2 = (l : Int) by omega]; exact IntWalk.i64_in _ (by omega)
  have KL := Lib.hid (clenc_any (k := k + 12) (A := 819) (o := 574) (v := l) h hp ho (by decide) (by decide) (by decide) hs (by omega))
  obtain ⟨T, hT⟩ : ∃ T, T = (lenP encM t 819 s (l : Int)).2 := ⟨_, rfl⟩
  rw [← hT] at KL ⊢
  obtain ⟨st, hst⟩ : ∃ st, st = z.st := ⟨_, rfl⟩
  have HST := Lib.hid hst
  have HD := Lib.hid hd
  clear h hp ho hs hn hn2 hl hT hst hd
  go_enter Try.func56, Try.ntmps56
  go_wp2_with fail
  refine KL.out.mono ?_
  rintro e w1 ⟨rfl, G1, hz1, hn1, ho1⟩
  have c6 := hz1.f.c6
  rw [← HST.out] at c6
  have z6 := hz1.f.fz 6
  have KC := Lib.hid (pmat_any st w1)
  have HZ2 : Hid (Cw K (w1.setCell ⟨K.g, 6, none⟩ (.int .i64 ((aft 7 10 st : Nat) : Int))) G1 A' c { z with st := aft 7 10 st } (k + 12) T) := Lib.hid (hz1.put 6 (by decide) (.int .i64 ((aft 7 10 st : Nat) : Int)) (z' := { z with st := aft 7 10 st }) rfl rfl)
  have HN2 := Lib.hid hn1
  have HO2 : Hid (Only (K.own Ge) w (w1.setCell ⟨K.g, 6, none⟩ (.int .i64 ((aft 7 10 st : Nat) : Int)))) := Lib.hid (ho1.cwn_put 6 _)
  clear hz1 hn1 ho1 KL
  go_wp2_with fail
  refine KC.out.mono ?_
  rintro e w2 ⟨rfl, rfl⟩
  clear KC
  go_upto_region 3 with fail
  generalize w1.setCell ⟨K.g, 6, none⟩ (.int .i64 ((aft 7 10 st : Nat) : Int)) = w3 at *
  clear c6 z6
  have KD := Lib.hid (cdist_any (l := l) HZ2.out HD.out)
  go_wp2_with fail
  refine KD.out.mono ?_
  rintro e w4 ⟨rfl, G4, hz4, hn4, ho4⟩
  have KP := Lib.hid (cpush_any (d := d) hz4)
  have HN4 := Lib.hid (HN2.out.trans hn4 HO2.out.size)
  have HO4 := Lib.hid (cset_trans HO2.out HN2.out ho4)
  clear hz4 hn4 ho4 KD HZ2 HN2 HO2
  go_wp2_with fail
  refine KP.out.mono ?_
  rintro e w5 ⟨rfl, G5, hz5, hn5, ho5⟩
  have HZ5 := Lib.hid hz5
  have HN5 := Lib.hid (HN4.out.trans hn5 HO4.out.size)
  have HO5 := Lib.hid (cset_trans HO4.out HN4.out ho5)
  clear hz5 hn5 ho5 KP HN4 HO4
  go_wp2_with fail
  first | go_end0 | refine bodyPost_ret (results_none rfl _ _ _) rfl ?_
  have := HZ5.out
  rw [HST.out] at this
  exact ⟨rfl, G5, this, HN5.out, HO5.out⟩

set_option maxRecDepth 100000 in
set_option maxHeartbeats 8000000 in
/-- The coder codes a length; an elder distance comes first. -/
theorem cagain_any {n j s : Nat} (h : Cw K w Ge A' c z (k + 10) t) (hp : z.pb ≤ 4) (ho : z.out.length ≤ 1000000) (hs : s = z.out.length % 2 ^ z.pb) (hn : 2 ≤ n) (hn2 : n ≤ 273) (hj : j ≤ 3) :
    Calls Try.prog 59 #[.pointer (some ⟨K.g, 0, none⟩), .int .i64 (j : Int), .int .i64 (n : Int)] w (CMid K w Ge (.tuple #[]) A' c { z.again j with st := aft 8 11 z.st } k (lenP encM t 1333 s ((n - 2 : Nat) : Int)).2) := by
  obtain ⟨l, hl⟩ : ∃ l, l = n - 2 := ⟨_, rfl⟩
  rw [← hl]
  have e1 : IntKind.i64.wrap ((n : Int) - 2) = (l : Int) := by rw [show (n : Int) - 2 = (l : Int) by omega]; exact IntWalk.i64_in _ (by omega)
  have KL := Lib.hid (clenc_any (k := k) (A := 1333) (o := 1088) (v := l) h hp ho (by decide) (by decide) (by decide) hs (by omega))
  obtain ⟨T, hT⟩ : ∃ T, T = (lenP encM t 1333 s (l : Int)).2 := ⟨_, rfl⟩
  rw [← hT] at KL ⊢
  obtain ⟨st, hst⟩ : ∃ st, st = z.st := ⟨_, rfl⟩
  have HST := Lib.hid hst
  have HJ := Lib.hid hj
  clear h hp ho hs hn hn2 hl hT hst hj
  go_enter Try.func59, Try.ntmps59
  go_wp2_with fail
  refine KL.out.mono ?_
  rintro e w1 ⟨rfl, G1, hz1, hn1, ho1⟩
  have c6 := hz1.f.c6
  rw [← HST.out] at c6
  have z6 := hz1.f.fz 6
  have KC := Lib.hid (pag_any st w1)
  have HZ2 : Hid (Cw K (w1.setCell ⟨K.g, 6, none⟩ (.int .i64 ((aft 8 11 st : Nat) : Int))) G1 A' c { z with st := aft 8 11 st } k T) := Lib.hid (hz1.put 6 (by decide) (.int .i64 ((aft 8 11 st : Nat) : Int)) (z' := { z with st := aft 8 11 st }) rfl rfl)
  have HN2 := Lib.hid hn1
  have HO2 : Hid (Only (K.own Ge) w (w1.setCell ⟨K.g, 6, none⟩ (.int .i64 ((aft 8 11 st : Nat) : Int)))) := Lib.hid (ho1.cwn_put 6 _)
  clear hz1 hn1 ho1 KL
  go_wp2_with fail
  refine KC.out.mono ?_
  rintro e w2 ⟨rfl, rfl⟩
  clear KC
  go_upto_region 2 with fail
  generalize w1.setCell ⟨K.g, 6, none⟩ (.int .i64 ((aft 8 11 st : Nat) : Int)) = w3 at *
  clear c6 z6
  have KP := Lib.hid (ccome_all HJ.out HZ2.out)
  go_wp2_with fail
  refine KP.out.mono ?_
  rintro e w5 ⟨rfl, G5, hz5, hn5, ho5⟩
  have HZ5 := Lib.hid hz5
  have HN5 := Lib.hid (HN2.out.trans hn5 HO2.out.size)
  have HO5 := Lib.hid (cset_trans HO2.out HN2.out ho5)
  clear hz5 hn5 ho5 KP HN2 HO2
  go_wp2_with fail
  first | go_end0 | refine bodyPost_ret (results_none rfl _ _ _) rfl ?_
  have hz := HZ5.out
  rw [HST.out] at hz
  exact ⟨rfl, G5, hz, HN5.out, HO5.out⟩

theorem copyN_succ : ∀ (j : Nat) (z : Lzs), copyN (j + 1) z = (copyN j z).push ((copyN j z).back (copyN j z).r0)
  | 0, _ => rfl
  | j + 1, z => by
    show copyN (j + 1) (z.push (z.back z.r0)) = _
    rw [copyN_succ j (z.push (z.back z.r0))]
    rfl
theorem copyN_r0 : ∀ (j : Nat) (z : Lzs), (copyN j z).r0 = z.r0
  | 0, _ => rfl
  | j + 1, z => copyN_r0 j (z.push (z.back z.r0))

set_option maxRecDepth 100000 in
set_option maxHeartbeats 8000000 in
/-- So many bytes at the first distance are told. -/
theorem ccopies_any {n : Nat} (h : Cw K w Ge A' c z k t) (hn : n ≤ 1000) (ho : z.out.length ≤ 900000) (hr0 : z.r0 < 4294967296) :
    Calls Try.prog 57 #[.pointer (some ⟨K.g, 0, none⟩), .int .i64 (n : Int)] w (CPut K w Ge (tb A' z.out.length c) (.tuple #[]) (copyN n z) k t) := by
  obtain ⟨i, hi, hz0, hz1, hz2⟩ := info_parts info_u8
  have HH := Lib.hid (And.intro hn (And.intro ho hr0))
  have HZ := Lib.hid h
  have HNT := Lib.hid (Nwr.refl w (tb A' z.out.length c))
  clear h hn ho hr0
  go_enter Try.func57, Try.ntmps57
  go_wp2_with fail
  go_loopw [5] (fun i wr => ∃ (j : Nat) (A1 : Option Addr) (c1 : Nat), j ≤ n ∧ i = .int .i64 (j : Int) ∧ Cw K wr Ge A1 c1 (copyN j z) k t ∧ Nwr w (tb A' z.out.length c) (tb A1 (copyN j z).out.length c1) ∧ Only (K.all Ge (tb A' z.out.length c)) w wr) (fun i _ => n - (intOf i).toNat)
  case atStart => exact ⟨0, A', c, Nat.zero_le _, rfl, HZ.out, HNT.out, Only.refl _ _⟩
  case round =>
    clear HZ HNT
    obtain ⟨j, A1, c1, hj, rfl, hz, hnt, ho⟩ := hrel
    obtain ⟨hn, hout, hr0⟩ := HH.out
    by_cases hlt : j < n
    · obtain ⟨k1, k2, k3, k4⟩ := copyN_keep j z
      have hsucc := copyN_succ j z
      have hr1 := copyN_r0 j z
      obtain ⟨y, hy⟩ : ∃ y, y = copyN j z := ⟨_, rfl⟩
      rw [← hy] at hz hnt k3 hsucc hr1
      have hyr : y.r0 < 4294967296 := by rw [hr1]; exact hr0
      have hyl : y.out.length ≤ 901000 := by omega
      have KA := Lib.hid (fun n => cat_any (hz.drewN n) hyr (by omega))
      obtain ⟨b, hb⟩ : ∃ b, b = y.back y.r0 := ⟨_, rfl⟩
      rw [← hb] at KA hsucc
      have c5 := hz.f.c5
      have c7 := hz.f.c7
      have i1 : (j : Int) < (n : Int) := by omega
      have HSU := Lib.hid hsucc
      have HO := Lib.hid ho
      have HN := Lib.hid hnt
      have HPU := Lib.hid (fun (w1 w3 : World) (A2 : Option Addr) (c2 : Nat) (h1 : Only (fun _ => False) wr w1) => Cw.pushed (w1 := w1) (w3 := w3) (A2 := A2) (c2 := c2) (x := b) hz h1)
      have HL := Lib.hid (show y.out.length ≤ 901000 by omega)
      have HOW := Lib.hid (fun (m : Nat) (o : Obj) => World.ownsRow.alloc (show (wr.drewN m).ownsRow 0 5 1 (.slice A1 y.out.length c1) y.out.length (bv y.out) from hz.told) o)
      have HNW := Lib.hid (fun (m : Nat) (u : Value) => (sl_one (wr.drewN m) 5 u).news)
      have c5a : ∀ (m : Nat) (o : Obj), ((wr.drewN m).alloc o).cell? ⟨K.g, 5, none⟩ = some (.slice A1 y.out.length c1) := fun m o => (hz.quiet (((Only.refl _ wr).drewN m).alloc o)).f.c5
      have c7a : ∀ (m : Nat) (o : Obj), ((wr.drewN m).alloc o).cell? ⟨K.g, 7, none⟩ = some (.int .u32 (y.r0 : Int)) := fun m o => (hz.quiet (((Only.refl _ wr).drewN m).alloc o)).f.c7
      have z5 := hz.f.fz 5
      clear hz hnt ho k1 k2 k3 k4 hsucc hr1 hyr hyl hb hy hout hr0
      go_wp2_with fail
      go_region_law (first
        | (go_simp; go_at_call 70; refine (KA.out _).mono ?_; rintro e wa ⟨rfl, na, rfl⟩)
        | (refine step_append_lies _ rfl (.tmp 11) (.tmp 19) 22 rfl 0 5 i _ 1 1 Try.underlying22 hi hz0 hz1 hz2 rfl (by omega) _ y.out.length (bv y.out) rfl (HOW.out _ _) _ 1 1 [.int .u8 (b.toNat : Int)] rfl rfl (HNW.out _ _) (one_one _ _) (by omega) (by have := HL.out; unfold maxLen; omega) (by have := HL.out; omega) (Nat.zero_le _) _ rfl ?_; intro q' c' w3 hod hgd hqd hql3; obtain ⟨d5, f5, d7, hp⟩ := HPU.out _ w3 (some ⟨q', 0, none⟩) c' (((Only.refl (fun _ => False) wr).drewN _).alloc _) hod hgd (hqd.imp (fun h => h.symm) (fun h => congrArg some h)); have HP := Lib.hid hp; clear hod hgd hqd hp))
      all_goals
        have HZ3 := Lib.hid HP.out.1
        have HN3 := Lib.hid (HN.out.trans HP.out.2.1 HO.out.size)
        have HO3 := Lib.hid (HO.out.trans' HP.out.2.2 (fun i hi => by
          rcases hi with hi | hi
          · exact .inl (.inl hi)
          · rcases HN.out i hi with e | e
            · exact .inl (.inr e)
            · exact .inr e))
        clear KA HPU HOW HNW c5 c7 c5a c7a z5 HP d5 f5 d7
        go_wp2_with fail
        go_roundw
        case rel => exact ⟨j + 1, _, _, by omega, by go_num, by rw [HSU.out]; exact HZ3.out, by rw [HSU.out]; exact HN3.out, HO3.out⟩
        case measure => simp [intOf]; omega
    · obtain rfl : j = n := by omega
      have HZ := Lib.hid hz
      have HN := Lib.hid hnt
      have HO := Lib.hid ho
      clear hz hnt ho hn hout hr0
      go_wp2_with fail
      first | go_end0 | refine bodyPost_ret (results_none rfl _ _ _) rfl ?_
      exact ⟨rfl, Ge, A1, c1, HZ.out, Nwr.refl _ _, HN.out, HO.out⟩
end
end Go.Proofs.Ytdhhibfppcpieaa
