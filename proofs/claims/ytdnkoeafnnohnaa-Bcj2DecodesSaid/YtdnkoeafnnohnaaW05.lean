/-
  B2Enc, B2Back, BytN, Byt, OwnRow, PcPure, Sc, RdDec: put together.
-/
import Derived.Test.YtdnkoeafnnohnaaW01
import Derived.Test.YtdnkoeafnnohnaaW04
import Derived.Test.YtdnkoeafnnohnaaW02
import Derived.Test.YtdnkoeafnnohnaaW03
import Derived.Deep.AppendLies
import Derived.LoopTactic
import Derived.Deep.RegionLaw
import Derived.Deep.RegionHeld3
import Derived.StillTailTactics
set_option linter.unusedVariables false
set_option linter.unusedSimpArgs false
/-
  Bytes laid into four streams, as numbers; and back.
-/
namespace Go.Proofs.Ytdnkoeafnnohnaa

/-- four streams, as they are put -/
structure E2 where
  main : List UInt8
  call : List UInt8
  jump : List UInt8
  ps : List Nat
  e : En
def E2.cons (x : UInt8) (r : E2) : E2 := { r with main := x :: r.main }
def be4 (p : Nat) : List UInt8 := [UInt8.ofNat (p / 16777216), UInt8.ofNat (p / 65536), UInt8.ofNat (p / 256), UInt8.ofNat p]
def E2.puts (k p : Nat) (r : E2) : E2 := if k < 256 then { r with call := be4 p ++ r.call } else { r with jump := be4 p ++ r.jump }
/-- the byte ahead of a place -/
def ahd (b : List UInt8) (i : Nat) : Nat := if i = 0 then 0 else (b.getD (i - 1) 0).toNat
def le4 (b : List UInt8) (i : Nat) : Nat := (b.getD i 0).toNat + (b.getD (i + 1) 0).toNat * 256 + (b.getD (i + 2) 0).toNat * 65536 + (b.getD (i + 3) 0).toNat * 16777216
/-- the place of the target behind i -/
def plc (b : List UInt8) (i : Nat) : Nat := (le4 b (i + 1) + i + 5) % 4294967296
def apart (b : List UInt8) (i : Nat) : Bool := decide (4 < b.length - i) && decide (plc b i < b.length)
def enc (b : List UInt8) : Nat → Nat → List Nat → En → E2
  | 0, _, ps, e => ⟨[], [], [], ps, e⟩
  | f + 1, i, ps, e =>
    if i < b.length then
      match mark (ahd b i) (b.getD i 0).toNat with
      | none => (enc b f (i + 1) ps e).cons (b.getD i 0)
      | some k =>
        if i + 1 = b.length then (enc b f (i + 1) ps e).cons (b.getD i 0)
        else if apart b i = true then ((enc b f (i + 5) (ps.set k (upOf (ps.getD k 0) 1)) (e.bit (ps.getD k 0) 1)).puts k (plc b i)).cons (b.getD i 0)
        else (enc b f (i + 1) (ps.set k (upOf (ps.getD k 0) 0)) (e.bit (ps.getD k 0) 0)).cons (b.getD i 0)
    else ⟨[], [], [], ps, e⟩

section
variable {b : List UInt8}
theorem enc_end {f i : Nat} {ps : List Nat} {e : En} (h : ¬ i < b.length) : enc b f i ps e = ⟨[], [], [], ps, e⟩ := by
  cases f with
  | zero => rfl
  | succ f => unfold enc; rw [if_neg h]
theorem enc_none {f i : Nat} {ps : List Nat} {e : En} (h : i < b.length) (hm : mark (ahd b i) (b.getD i 0).toNat = none) : enc b (f + 1) i ps e = (enc b f (i + 1) ps e).cons (b.getD i 0) := by
  conv => lhs; unfold enc
  rw [if_pos h, hm]
theorem enc_last {f i k : Nat} {ps : List Nat} {e : En} (h : i + 1 = b.length) (hm : mark (ahd b i) (b.getD i 0).toNat = some k) : enc b (f + 1) i ps e = (enc b f (i + 1) ps e).cons (b.getD i 0) := by
  conv => lhs; unfold enc
  rw [if_pos (by omega), hm]
  exact if_pos h
theorem enc_zero {f i k : Nat} {ps : List Nat} {e : En} (h : i + 1 < b.length) (hm : mark (ahd b i) (b.getD i 0).toNat = some k) (ha : apart b i = false) :
    enc b (f + 1) i ps e = (enc b f (i + 1) (ps.set k (upOf (ps.getD k 0) 0)) (e.bit (ps.getD k 0) 0)).cons (b.getD i 0) := by
  conv => lhs; unfold enc
  rw [if_pos (by omega), hm]
  simp only []
  rw [if_neg (by omega), if_neg (by rw [ha]; simp)]
theorem enc_one {f i k : Nat} {ps : List Nat} {e : En} (h : i + 1 < b.length) (hm : mark (ahd b i) (b.getD i 0).toNat = some k) (ha : apart b i = true) :
    enc b (f + 1) i ps e = ((enc b f (i + 5) (ps.set k (upOf (ps.getD k 0) 1)) (e.bit (ps.getD k 0) 1)).puts k (plc b i)).cons (b.getD i 0) := by
  conv => lhs; unfold enc
  rw [if_pos (by omega), hm]
  simp only []
  rw [if_neg (by omega), if_pos ha]
theorem ahd_lt (b : List UInt8) (i : Nat) : ahd b i < 256 := by
  unfold ahd
  split
  · decide
  · exact UInt8.toNat_lt _
theorem apart_len {i : Nat} (h : apart b i = true) : i + 5 ≤ b.length := by
  unfold apart at h
  rw [Bool.and_eq_true] at h
  have := of_decide_eq_true h.1
  omega
/-- as many bytes as there are are put, and the coder stays right -/
theorem enc_ok : ∀ (f i : Nat) (ps : List Nat) (e : En), b.length - i ≤ f → i ≤ b.length → EnOk e → PsOk ps → ps.length = 258 →
    (enc b f i ps e).main.length + (enc b f i ps e).call.length + (enc b f i ps e).jump.length = b.length - i ∧ EnOk (enc b f i ps e).e ∧ PsOk (enc b f i ps e).ps ∧ (enc b f i ps e).ps.length = 258 ∧ Reach e (enc b f i ps e).e ∧ (enc b f i ps e).e.l ≤ e.l + (b.length - i)
  | 0, i, ps, e, hf, hi, he, hp, hl => by
    have : i = b.length := by omega
    exact ⟨by show 0 = _; omega, he, hp, hl, Reach.refl e, by show e.l ≤ _; omega⟩
  | f + 1, i, ps, e, hf, hi, he, hp, hl => by
    by_cases h : i < b.length
    · cases hm : mark (ahd b i) (b.getD i 0).toNat with
      | none =>
        rw [enc_none h hm]
        obtain ⟨h1, h2, h3, h4, h5, h6⟩ := enc_ok f (i + 1) ps e (by omega) h he hp hl
        refine ⟨?_, h2, h3, h4, h5, by show (enc b f (i + 1) ps e).e.l ≤ _; omega⟩
        show ((b.getD i 0) :: (enc b f (i + 1) ps e).main).length + (enc b f (i + 1) ps e).call.length + (enc b f (i + 1) ps e).jump.length = _
        rw [List.length_cons]
        omega
      | some k =>
        have hk := mark_lt (ahd_lt b i) hm
        have hg := getD_ok hp (show k < ps.length by omega)
        by_cases hlast : i + 1 = b.length
        · rw [enc_last hlast hm]
          obtain ⟨h1, h2, h3, h4, h5, h6⟩ := enc_ok f (i + 1) ps e (by omega) h he hp hl
          refine ⟨?_, h2, h3, h4, h5, by show (enc b f (i + 1) ps e).e.l ≤ _; omega⟩
          show ((b.getD i 0) :: (enc b f (i + 1) ps e).main).length + (enc b f (i + 1) ps e).call.length + (enc b f (i + 1) ps e).jump.length = _
          rw [List.length_cons]
          omega
        · cases ha : apart b i with
          | false =>
            rw [enc_zero (by omega) hm ha]
            have hbl := bit_len e (ps.getD k 0) 0
            obtain ⟨h1, h2, h3, h4, h5, h6⟩ := enc_ok f (i + 1) (ps.set k (upOf (ps.getD k 0) 0)) (e.bit (ps.getD k 0) 0) (by omega) h (bit_ok he hg) (psOk_set hp k (pOk_upOf hg)) (by rw [List.length_set]; exact hl)
            refine ⟨?_, h2, h3, h4, (bit_reach he hg).trans h5, by show (enc b f (i + 1) _ _).e.l ≤ _; omega⟩
            show ((b.getD i 0) :: (enc b f (i + 1) _ _).main).length + (enc b f (i + 1) _ _).call.length + (enc b f (i + 1) _ _).jump.length = _
            rw [List.length_cons]
            omega
          | true =>
            rw [enc_one (by omega) hm ha]
            have h5' := apart_len ha
            have hbl := bit_len e (ps.getD k 0) 1
            obtain ⟨h1, h2, h3, h4, h5, h6⟩ := enc_ok f (i + 5) (ps.set k (upOf (ps.getD k 0) 1)) (e.bit (ps.getD k 0) 1) (by omega) h5' (bit_ok he hg) (psOk_set hp k (pOk_upOf hg)) (by rw [List.length_set]; exact hl)
            unfold E2.puts
            split
            · refine ⟨?_, h2, h3, h4, (bit_reach he hg).trans h5, by show (enc b f (i + 5) _ _).e.l ≤ _; omega⟩
              show ((b.getD i 0) :: (enc b f (i + 5) _ _).main).length + (be4 (plc b i) ++ (enc b f (i + 5) _ _).call).length + (enc b f (i + 5) _ _).jump.length = _
              rw [List.length_cons, List.length_append]
              show _ + (4 + _) + _ = _
              omega
            · refine ⟨?_, h2, h3, h4, (bit_reach he hg).trans h5, by show (enc b f (i + 5) _ _).e.l ≤ _; omega⟩
              show ((b.getD i 0) :: (enc b f (i + 5) _ _).main).length + (enc b f (i + 5) _ _).call.length + (be4 (plc b i) ++ (enc b f (i + 5) _ _).jump).length = _
              rw [List.length_cons, List.length_append]
              show _ + _ + (4 + _) = _
              omega
    · rw [enc_end h]
      exact ⟨by show 0 = _; omega, he, hp, hl, Reach.refl e, by show e.l ≤ _; omega⟩

theorem take4_be {p : Nat} (hp : p < 4294967296) (t : List UInt8) : take4 (be4 p ++ t) = some (p, t) := by
  show some (_, t) = _
  congr 2
  have e0 : (UInt8.ofNat (p / 16777216)).toNat = p / 16777216 := by simp; omega
  have e1 : (UInt8.ofNat (p / 65536)).toNat = p / 65536 % 256 := by simp
  have e2 : (UInt8.ofNat (p / 256)).toNat = p / 256 % 256 := by simp
  have e3 : (UInt8.ofNat p).toNat = p % 256 := by simp
  rw [e0, e1, e2, e3]
  omega
theorem tgt_plc {i : Nat} (h : i + 5 ≤ b.length) (hb : b.length ≤ 1000000000) : tgt (plc b i) (i + 1) = le4 b (i + 1) := by
  unfold tgt wr32 plc le4
  have h0 := (b.getD (i + 1) 0).toNat_lt
  have h1 := (b.getD (i + 1 + 1) 0).toNat_lt
  have h2 := (b.getD (i + 1 + 2) 0).toNat_lt
  have h3 := (b.getD (i + 1 + 3) 0).toNat_lt
  omega
theorem leB_le4 (i : Nat) : leB (le4 b i) 4 = [b.getD i 0, b.getD (i + 1) 0, b.getD (i + 2) 0, b.getD (i + 3) 0] := by
  unfold le4
  have h0 := (b.getD i 0).toNat_lt
  have h1 := (b.getD (i + 1) 0).toNat_lt
  have h2 := (b.getD (i + 2) 0).toNat_lt
  have h3 := (b.getD (i + 3) 0).toNat_lt
  have k : ∀ (x : UInt8) (n : Nat), n = x.toNat → UInt8.ofNat n = x := fun x n h => by rw [h]; simp
  show [UInt8.ofNat _, UInt8.ofNat _, UInt8.ofNat _, UInt8.ofNat _] = _
  rw [k (b.getD i 0) _ (by omega), k (b.getD (i + 1) 0) _ (by omega), k (b.getD (i + 2) 0) _ (by omega), k (b.getD (i + 3) 0) _ (by omega)]
theorem lastB_le4 (a i : Nat) : lastB a (le4 b i) 4 = (b.getD (i + 3) 0).toNat := by
  unfold le4
  have h0 := (b.getD i 0).toNat_lt
  have h1 := (b.getD (i + 1) 0).toNat_lt
  have h2 := (b.getD (i + 2) 0).toNat_lt
  have h3 := (b.getD (i + 3) 0).toNat_lt
  show _ / 256 / 256 / 256 % 256 = _
  omega
theorem take_succ_getD {i : Nat} (h : i < b.length) : b.take i ++ [b.getD i 0] = b.take (i + 1) := by
  rw [List.take_succ_eq_append_getElem h]
  simp [List.getD, h]
theorem take_five {i : Nat} (h : i + 5 ≤ b.length) : b.take (i + 1) ++ [b.getD (i + 1) 0, b.getD (i + 1 + 1) 0, b.getD (i + 1 + 2) 0, b.getD (i + 1 + 3) 0] = b.take (i + 5) := by
  rw [← take_succ_getD (b := b) (i := i + 4) (by omega), ← take_succ_getD (b := b) (i := i + 3) (by omega), ← take_succ_getD (b := b) (i := i + 2) (by omega), ← take_succ_getD (b := b) (i := i + 1) (by omega)]
  simp

/-- What is coded is decoded as it was. -/
theorem enc_back {bs : List UInt8} {f0 : En} (hE : Ends bs f0) (hb : b.length ≤ 1000000000) : ∀ (f i : Nat) (ps : List Nat) (e : En), b.length - i ≤ f → i ≤ b.length → EnOk e → PsOk ps → ps.length = 258 → (enc b f i ps e).e = f0 →
    goR b.length (enc b f i ps e).main ⟨(enc b f i ps e).call, (enc b f i ps e).jump, decAt bs [] e, ps⟩ (b.take i) (ahd b i) = some b := by
  have done : ∀ (i : Nat) (ps : List Nat) (e : En), i = b.length → e = f0 → goR b.length [] ⟨[], [], decAt bs [] e, ps⟩ (b.take i) (ahd b i) = some b := by
    intro i ps e hi he
    subst hi he
    unfold goR
    rw [ends_dec hE]
    have h1 : b.length ≤ (b.take b.length).length := by simp
    rw [if_pos h1, if_pos (show K2.ends _ = true from rfl), List.take_length]
  intro f
  induction f with
  | zero =>
    intro i ps e hf hi he hp hl hend
    exact done i ps e (by omega) hend
  | succ f ih =>
    intro i ps e hf hi he hp hl hend
    by_cases h : i < b.length
    · have hlen : (b.take i).length = i := by rw [List.length_take]; omega
      have hgo : ∀ (m : List UInt8) (k : K2), goR b.length (b.getD i 0 :: m) k (b.take i) (ahd b i) = match aftB b.length k (b.take (i + 1)) (ahd b i) (b.getD i 0).toNat with
          | none => none
          | some (k', o', a') => goR b.length m k' o' a' := fun m k => by
        conv => lhs; unfold goR
        rw [if_neg (by omega), take_succ_getD h]
        rfl
      have hah : ahd b (i + 1) = (b.getD i 0).toNat := by unfold ahd; rw [if_neg (by omega), Nat.add_sub_cancel]
      have hln1 : (b.take (i + 1)).length = i + 1 := by rw [List.length_take]; omega
      cases hm : mark (ahd b i) (b.getD i 0).toNat with
      | none =>
        rw [enc_none h hm] at hend ⊢
        have := ih (i + 1) ps e (by omega) h he hp hl hend
        refine (hgo _ _).trans ?_
        unfold aftB
        rw [hm]
        rw [hah] at this
        exact this
      | some k =>
        have hk := mark_lt (ahd_lt b i) hm
        have hg := getD_ok hp (show k < ps.length by omega)
        by_cases hlast : i + 1 = b.length
        · rw [enc_last hlast hm] at hend ⊢
          have := ih (i + 1) ps e (by omega) h he hp hl hend
          refine (hgo _ _).trans ?_
          unfold aftB
          rw [hm]
          simp only []
          rw [if_pos (by rw [hln1]; exact hlast)]
          rw [hah] at this
          exact this
        · cases ha : apart b i with
          | false =>
            rw [enc_zero (by omega) hm ha] at hend ⊢
            have hr := (enc_ok (b := b) f (i + 1) (ps.set k (upOf (ps.getD k 0) 0)) (e.bit (ps.getD k 0) 0) (by omega) h (bit_ok he hg) (psOk_set hp k (pOk_upOf hg)) (by rw [List.length_set]; exact hl)).2.2.2.2.1
            have hd := bit_dec (more := []) hE he hg (show 0 ≤ 1 by decide) (hend ▸ hr)
            have := ih (i + 1) (ps.set k (upOf (ps.getD k 0) 0)) (e.bit (ps.getD k 0) 0) (by omega) h (bit_ok he hg) (psOk_set hp k (pOk_upOf hg)) (by rw [List.length_set]; exact hl) hend
            refine (hgo _ _).trans ?_
            unfold aftB
            rw [hm]
            simp only []
            rw [if_neg (by rw [hln1]; exact hlast)]
            unfold bitB
            simp only [hd]
            rw [hah] at this
            exact this
          | true =>
            rw [enc_one (by omega) hm ha] at hend ⊢
            have h5 := apart_len ha
            have hend' : (enc b f (i + 5) (ps.set k (upOf (ps.getD k 0) 1)) (e.bit (ps.getD k 0) 1)).e = f0 := by
              rw [← hend]
              unfold E2.puts
              split <;> rfl
            have hr := (enc_ok (b := b) f (i + 5) (ps.set k (upOf (ps.getD k 0) 1)) (e.bit (ps.getD k 0) 1) (by omega) h5 (bit_ok he hg) (psOk_set hp k (pOk_upOf hg)) (by rw [List.length_set]; exact hl)).2.2.2.2.1
            have hd := bit_dec (more := []) hE he hg (show 1 ≤ 1 by decide) (hend' ▸ hr)
            have := ih (i + 5) (ps.set k (upOf (ps.getD k 0) 1)) (e.bit (ps.getD k 0) 1) (by omega) h5 (bit_ok he hg) (psOk_set hp k (pOk_upOf hg)) (by rw [List.length_set]; exact hl) hend'
            have hpl : plc b i < 4294967296 := Nat.mod_lt _ (by decide)
            have hah5 : ahd b (i + 5) = (b.getD (i + 1 + 3) 0).toNat := by unfold ahd; rw [if_neg (by omega)]; rfl
            obtain ⟨dd, hdd⟩ : ∃ dd, decAt bs [] (e.bit (ps.getD k 0) 1) = some dd := ⟨_, rfl⟩
            rw [hdd] at hd this
            unfold E2.puts
            split
            · rename_i h256
              refine (hgo _ _).trans ?_
              unfold aftB
              rw [hm]
              simp only []
              rw [if_neg (by rw [hln1]; exact hlast)]
              unfold bitB
              simp only [E2.cons, hd]
              rw [if_neg (by rw [hln1]; omega), if_pos h256, take4_be hpl]
              simp only []
              rw [hln1, tgt_plc h5 hb, leB_le4, lastB_le4, take_five h5, ← hah5]
              exact this
            · rename_i h256
              refine (hgo _ _).trans ?_
              unfold aftB
              rw [hm]
              simp only []
              rw [if_neg (by rw [hln1]; exact hlast)]
              unfold bitB
              simp only [E2.cons, hd]
              rw [if_neg (by rw [hln1]; omega), if_neg h256, take4_be hpl]
              simp only []
              rw [hln1, tgt_plc h5 hb, leB_le4, lastB_le4, take_five h5, ← hah5]
              exact this
    · rw [enc_end h] at hend ⊢
      exact done i ps e (by omega) hend
end
end Go.Proofs.Ytdnkoeafnnohnaa

/-
  What is coded is decoded, and its numbers.
-/
namespace Go.Proofs.Ytdnkoeafnnohnaa

/-- four streams that hold what is coded -/
def Holds (b : List UInt8) (l : Nat → List UInt8) : Prop :=
  l 0 = (enc b b.length 0 (List.replicate 258 1024) En.new).main ∧ l 1 = (enc b b.length 0 (List.replicate 258 1024) En.new).call ∧ l 2 = (enc b b.length 0 (List.replicate 258 1024) En.new).jump ∧
    be (l 3) = (enc b b.length 0 (List.replicate 258 1024) En.new).e.n ∧ (l 3).length = (enc b b.length 0 (List.replicate 258 1024) En.new).e.l
/-- what is decoded, by the size -/
def ansD (l : Nat → List UInt8) (size : Nat) : Option (List UInt8) := goR size (l 0) ⟨l 1, l 2, started (l 3), List.replicate 258 1024⟩ [] 0

theorem holds_back {b : List UInt8} {l : Nat → List UInt8} (h : Holds b l) (hb : b.length ≤ 16384) : ansD l b.length = some b := by
  obtain ⟨h0, h1, h2, h3, h4⟩ := h
  obtain ⟨_, k2, _, _, k5, _⟩ := enc_ok (b := b) b.length 0 (List.replicate 258 1024) En.new (by omega) (Nat.zero_le _) enOk_new (fun p hp => by rw [List.eq_of_mem_replicate hp]; exact pOk_fresh) (List.length_replicate ..)
  have hE : Ends (l 3) (enc b b.length 0 (List.replicate 258 1024) En.new).e := ends_of k2 h3 h4
  have := enc_back hE (by omega) b.length 0 (List.replicate 258 1024) En.new (by omega) (Nat.zero_le _) enOk_new (fun p hp => by rw [List.eq_of_mem_replicate hp]; exact pOk_fresh) (List.length_replicate ..) rfl
  have hs := started_dec (more := []) hE k5
  rw [List.append_nil] at hs
  unfold ansD
  rw [h0, h1, h2, hs]
  exact this
theorem holds_awk {l : Nat → List UInt8} (h : Holds [232, 251, 255, 255, 255] l) : l 0 = [232] ∧ l 1 = [0, 0, 0, 0] ∧ (l 3).length = 5 := by
  obtain ⟨h0, h1, _, _, h4⟩ := h
  refine ⟨?_, ?_, ?_⟩
  · rw [h0]; decide +kernel
  · rw [h1]; decide +kernel
  · rw [h4]; decide +kernel
/-- no instructions -/
theorem enc_plain {b : List UInt8} (h : ∀ i, i < b.length → b.getD i 0 ≠ 232 ∧ b.getD i 0 ≠ 233 ∧ b.getD i 0 ≠ 15) :
    ∀ (f i : Nat) (ps : List Nat) (e : En), b.length - i ≤ f → i ≤ b.length → enc b f i ps e = ⟨b.drop i, [], [], ps, e⟩
  | 0, i, ps, e, hf, hi => by
    have : i = b.length := by omega
    subst this
    unfold enc
    rw [List.drop_length]
  | f + 1, i, ps, e, hf, hi => by
    by_cases hlt : i < b.length
    · have hm : mark (ahd b i) (b.getD i 0).toNat = none := by
        obtain ⟨g1, g2, _⟩ := h i hlt
        have z : ∀ x y : UInt8, x ≠ y → x.toNat ≠ y.toNat := fun x y hx hy => hx (UInt8.toNat_inj.1 hy)
        have a15 : ahd b i ≠ 15 := by
          unfold ahd
          split
          · decide
          · exact z _ 15 (h (i - 1) (by omega)).2.2
        unfold mark
        rw [if_neg (show ¬ (b.getD i 0).toNat = 232 from z _ 232 g1), if_neg (show ¬ (b.getD i 0).toNat = 233 from z _ 233 g2), if_neg (fun hh => a15 hh.1)]
      unfold enc
      rw [if_pos hlt, hm]
      show (enc b f (i + 1) ps e).cons (b.getD i 0) = _
      rw [enc_plain h f (i + 1) ps e (by omega) (by omega)]
      unfold E2.cons
      have hd : b.drop i = b.getD i 0 :: b.drop (i + 1) := by
        rw [List.drop_eq_getElem_cons hlt]; simp [List.getD, hlt]
      rw [hd]
    · have : i = b.length := by omega
      subst this
      rw [enc_end (Nat.lt_irrefl _), List.drop_length]
end Go.Proofs.Ytdnkoeafnnohnaa

/-
  A row of bytes of the call's own, its block named; rows compared.
-/
namespace Go.Proofs.Ytdnkoeafnnohnaa
open Go.RowKit

/-- Block q holds the bytes bs. -/
def Byt (w : World) (q c : Nat) (bs : List UInt8) : Prop := w.ownsRow 0 5 1 (.slice (some ⟨q, 0, none⟩) bs.length c) bs.length (bv bs)

theorem bv_set (bs : List UInt8) (i : Nat) (y : UInt8) : (bv bs).set i (.int .u8 (y.toNat : Int)) = bv (bs.set i y) := by
  simp [bv, List.map_set]

section
variable {w w' : World} {q c : Nat} {bs : List UInt8}
theorem Byt.cell (h : Byt w q c bs) {i : Nat} (hi : i < bs.length) : w.cell? ⟨q, i, none⟩ = some (.int .u8 ((bs.getD i 0).toNat : Int)) := by
  rw [World.ownsRow.cellAt h i (by omega), bv_get bs i hi]
theorem Byt.free (h : Byt w q c bs) (i : Nat) : w.frozen? ⟨q, i, none⟩ = false := World.ownsRow.frozenAt h i
theorem Byt.put (h : Byt w q c bs) (i : Nat) (y : UInt8) : Byt (w.setCell ⟨q, i, none⟩ (.int .u8 (y.toNat : Int))) q c (bs.set i y) := by
  have := (World.ownsRow.stored h i (.int .u8 (y.toNat : Int))).1
  rw [bv_set] at this
  unfold Byt
  rw [List.length_set]
  exact this
theorem Byt.drewN (h : Byt w q c bs) (n : Nat) : Byt (w.drewN n) q c bs := h
theorem Byt.only {S : Nat → Prop} (h : Byt w q c bs) (hb : Only S w w') (hS : ¬ S q) : Byt w' q c bs := own_only h hb hS
theorem Byt.lt (h : Byt w q c bs) : q < w.heap.size := (World.ownsRow.lt h q rfl).2
theorem Byt.own (h : Byt w q c bs) : w.ownsRow 0 5 1 (.slice (some ⟨q, 0, none⟩) bs.length c) bs.length (bv bs) := h
theorem Byt.sl (h : Byt w q c bs) : Sl w (some ⟨q, 0, none⟩) bs.length (bv bs) := (own_facts h).1
theorem Byt.cap (h : Byt w q c bs) : bs.length ≤ c ∧ c ≤ maxLen := by
  obtain ⟨_, h2, h3, _⟩ := own_facts h
  exact ⟨h2, h3⟩
end

set_option maxHeartbeats 1000000 in
theorem bytesSame_any {A B : Option Addr} {n ca cb : Nat} {bs : List UInt8} {w : World} (hA : Sl w A n (bv bs)) (hB : Sl w B n (bv bs)) (hn : n ≤ 1000000000) :
    Calls Try.prog 11 #[.slice A n ca, .slice B n cb] w fun e w' => e = .returned (.bool true) ∧ ∃ d, w.drewN d = w' := by
  have HA := Lib.hid hA
  have HB := Lib.hid hB
  have hl : bs.length = n := by rw [← bv_length]; exact hA.1
  have HL := Lib.hid hl
  clear hA hB hl
  go_enter Try.func11, Try.ntmps11
  go_wp2_with fail
  go_loopw [5] (fun i wr => ∃ j k : Nat, j ≤ n ∧ i = .int .i64 (j : Int) ∧ wr = w.drewN k) (fun i _ => n - (intOf i).toNat)
  case atStart => exact ⟨0, 0, Nat.zero_le _, rfl, rfl⟩
  case round =>
    obtain ⟨j, k, hj, rfl, rfl⟩ := hrel
    by_cases hlt : j < n
    · obtain ⟨ba, oa, rfl, hba, hca⟩ := HA.out.2 (by omega)
      obtain ⟨bb, ob, rfl, hbb, hcb⟩ := HB.out.2 (by omega)
      have c1 : w.cell? ⟨ba, oa + j, none⟩ = some (.int .u8 ((bs.getD j 0).toNat : Int)) := by rw [hca j hlt, bv_get bs j (by have := HL.out; omega)]
      have c2 : w.cell? ⟨bb, ob + j, none⟩ = some (.int .u8 ((bs.getD j 0).toNat : Int)) := by rw [hcb j hlt, bv_get bs j (by have := HL.out; omega)]
      generalize bs.getD j 0 = x at *
      have i0 : (0 : Int) ≤ (j : Int) := by omega
      have i1 : (j : Int) < (n : Int) := by omega
      clear hca hcb
      go_wp2_with fail
      go_quiet (fail)
      go_wp2_with fail
      go_roundw
      case rel => exact ⟨j + 1, k + nq, by omega, by go_num, rfl⟩
      case measure => simp [intOf]; omega
    · obtain rfl : j = n := by omega
      go_wp2_with fail
      go_ret
      exact ⟨rfl, _, rfl⟩
end Go.Proofs.Ytdnkoeafnnohnaa



/-
  An own row stays.
-/
namespace Go.Proofs.Ytdnkoeafnnohnaa
open Go.RowKit

theorem own_only' {S : Nat → Prop} {w w' : World} {base : Nat} {e : TypeId} {v : Value} {n : Nat} {xs : List Value} (h : w.ownsRow base e 1 v n xs) (hb : Only S w w') (hg : ∀ i, v.ownBlock = some i → ¬ S i) : w'.ownsRow base e 1 v n xs := by
  refine ⟨h.1, ?_⟩
  rcases h.2 with hv | ⟨g', cap, cur, hv, hb', hh, r⟩
  · exact .inl hv
  · refine .inr ⟨g', cap, cur, hv, hb', ?_, r⟩
    subst hv
    have hlt : g' < w.heap.size := by
      rcases Nat.lt_or_ge g' w.heap.size with hlt | hge
      · exact hlt
      · rw [Array.getElem?_eq_none hge] at hh; cases hh
    exact (hb.block g' hlt (hg g' rfl)).trans hh
theorem own_old {w : World} {base : Nat} {e : TypeId} {v : Value} {n i : Nat} {xs : List Value} (h : w.ownsRow base e 1 v n xs) (hi : v.ownBlock = some i) : i < w.heap.size := (World.ownsRow.lt h i hi).2
end Go.Proofs.Ytdnkoeafnnohnaa

/-
  The program's coder as numbers: the bytes that it gave, the byte that waits, the bytes FF behind it, low; and the one great number that it stands for.
-/
namespace Go.Proofs.Ytdnkoeafnnohnaa

structure Co where
  gs : List UInt8
  wt : Nat
  fu : Nat
  lo : Nat

def Co.new : Co := ⟨[], 0, 0, 0⟩
/-- what waited is given, more by m -/
def Co.gave (c : Co) (m : Nat) : List UInt8 := c.gs ++ (UInt8.ofNat (c.wt + m) :: List.replicate c.fu (UInt8.ofNat (255 + m)))
/-- a byte is given -/
def Co.give (c : Co) : Co :=
  if 4294967296 ≤ c.lo then ⟨c.gave 1, c.lo / 16777216 % 256, 0, c.lo % 16777216 * 256⟩
  else if c.lo < 4278190080 then ⟨c.gave 0, c.lo / 16777216, 0, c.lo % 16777216 * 256⟩
  else ⟨c.gs, c.wt, c.fu + 1, c.lo % 16777216 * 256⟩

/-- the coder c stands for n, as long as l; what is added stays below r -/
structure CoN (c : Co) (n l r : Nat) : Prop where
  num : n + 4294967296 = (be c.gs * 256 + c.wt + 1) * 256 ^ c.fu * 4294967296 + c.lo
  len : l = c.gs.length + c.fu + 5
  wt : c.wt < 256
  top : c.lo + r ≤ 8589934592
  full : c.wt = 255 → c.lo + r ≤ 4294967296
  pos : 1 ≤ r

theorem coN_new : CoN Co.new 0 5 4294967295 := ⟨by decide, rfl, by decide, by decide, by decide, by decide⟩
theorem CoN.mono {c : Co} {n l r r' : Nat} (h : CoN c n l r) (hr : r' ≤ r) (h1 : 1 ≤ r') : CoN c n l r' :=
  ⟨h.num, h.len, h.wt, by have := h.top; omega, fun e => by have := h.full e; omega, h1⟩
theorem CoN.low {c : Co} {n l r : Nat} (h : CoN c n l r) : c.lo < 8589934592 := by have := h.top; have := h.pos; omega

/-- what is added -/
def Co.plus (c : Co) (z : Nat) : Co := ⟨c.gs, c.wt, c.fu, c.lo + z⟩
theorem CoN.plus {c : Co} {n l r r' z : Nat} (h : CoN c n l r) (hz : z + r' ≤ r) (h1 : 1 ≤ r') : CoN (c.plus z) (n + z) l r' :=
  ⟨by have := h.num; show n + z + 4294967296 = (be c.gs * 256 + c.wt + 1) * 256 ^ c.fu * 4294967296 + (c.lo + z); omega, h.len, h.wt, by have := h.top; show c.lo + z + r' ≤ _; omega, fun e => by have := h.full e; show c.lo + z + r' ≤ _; omega, h1⟩

theorem be_fulls : ∀ k : Nat, be (List.replicate k (UInt8.ofNat 255)) + 1 = 256 ^ k
  | 0 => rfl
  | k + 1 => by
    have := be_fulls k
    rw [List.replicate_succ', be_snoc, Nat.pow_succ]
    have e : (UInt8.ofNat 255).toNat = 255 := rfl
    rw [e]
    omega
theorem gave_len (c : Co) (m : Nat) : (c.gave m).length = c.gs.length + 1 + c.fu := by unfold Co.gave; simp; omega
theorem be_gave_zero (c : Co) (h : c.wt < 256) : be (c.gave 0) + 1 = (be c.gs * 256 + c.wt + 1) * 256 ^ c.fu := by
  have e : (UInt8.ofNat (c.wt + 0)).toNat = c.wt := by simp; omega
  have k := be_fulls c.fu
  have hc : UInt8.ofNat (c.wt + 0) :: List.replicate c.fu (UInt8.ofNat (255 + 0)) = [UInt8.ofNat (c.wt + 0)] ++ List.replicate c.fu (UInt8.ofNat 255) := rfl
  unfold Co.gave
  rw [hc, ← List.append_assoc, be_append, be_snoc, e, List.length_replicate, Nat.add_mul (be c.gs * 256 + c.wt) 1]
  omega
theorem be_gave_one (c : Co) (h : c.wt < 255) : be (c.gave 1) = (be c.gs * 256 + c.wt + 1) * 256 ^ c.fu := by
  have e : (UInt8.ofNat (c.wt + 1)).toNat = c.wt + 1 := by simp; omega
  have hc : UInt8.ofNat (c.wt + 1) :: List.replicate c.fu (UInt8.ofNat (255 + 1)) = [UInt8.ofNat (c.wt + 1)] ++ List.replicate c.fu 0 := rfl
  unfold Co.gave
  rw [hc, ← List.append_assoc, be_append, be_snoc, e, List.length_replicate, be_zeros, Nat.add_zero, Nat.add_assoc]

theorem give_carry {n X lo h m : Nat} (hn : n + 4294967296 = X * 4294967296 + lo) (hlo : lo = 4294967296 + h * 16777216 + m) : n * 256 + 4294967296 = (X * 256 + h + 1) * 4294967296 + m * 256 := by omega
theorem give_low {n X Y lo h m : Nat} (hn : n + 4294967296 = X * 4294967296 + lo) (hY : Y + 1 = X) (hlo : lo = h * 16777216 + m) : n * 256 + 4294967296 = (Y * 256 + h + 1) * 4294967296 + m * 256 := by omega
theorem give_full {n X lo m : Nat} (hn : n + 4294967296 = X * 4294967296 + lo) (hlo : lo = 255 * 16777216 + m) : n * 256 + 4294967296 = X * 256 * 4294967296 + m * 256 := by omega

theorem CoN.give {c : Co} {n l r : Nat} (h : CoN c n l r) (hr : r < 16777216) : CoN c.give (n * 256) (l + 1) (r * 256) := by
  obtain ⟨h1, h2, h3, h4, h5, h6⟩ := h
  unfold Co.give
  by_cases hc : 4294967296 ≤ c.lo
  · rw [if_pos hc]
    have hw : c.wt < 255 := by
      rcases Nat.lt_or_ge c.wt 255 with h | h
      · exact h
      · have := h5 (by omega)
        omega
    have hX := be_gave_one c hw
    rw [← hX] at h1
    refine ⟨?_, ?_, Nat.mod_lt _ (by decide), ?_, ?_, by omega⟩
    · show n * 256 + 4294967296 = (be (c.gave 1) * 256 + c.lo / 16777216 % 256 + 1) * 256 ^ 0 * 4294967296 + c.lo % 16777216 * 256
      rw [Nat.pow_zero, Nat.mul_one]
      exact give_carry h1 (by omega)
    · show l + 1 = (c.gave 1).length + 0 + 5
      rw [gave_len]
      omega
    · show c.lo % 16777216 * 256 + r * 256 ≤ _
      omega
    · show c.lo / 16777216 % 256 = 255 → c.lo % 16777216 * 256 + r * 256 ≤ _
      intro e
      omega
  · rw [if_neg hc]
    by_cases hl : c.lo < 4278190080
    · rw [if_pos hl]
      have hX := be_gave_zero c h3
      refine ⟨?_, ?_, ?_, ?_, ?_, by omega⟩
      · show n * 256 + 4294967296 = (be (c.gave 0) * 256 + c.lo / 16777216 + 1) * 256 ^ 0 * 4294967296 + c.lo % 16777216 * 256
        rw [Nat.pow_zero, Nat.mul_one]
        exact give_low h1 hX (by omega)
      · show l + 1 = (c.gave 0).length + 0 + 5
        rw [gave_len]
        omega
      · show c.lo / 16777216 < 256
        omega
      · show c.lo % 16777216 * 256 + r * 256 ≤ _
        omega
      · show c.lo / 16777216 = 255 → c.lo % 16777216 * 256 + r * 256 ≤ _
        intro e
        omega
    · rw [if_neg hl]
      refine ⟨?_, ?_, h3, ?_, ?_, by omega⟩
      · show n * 256 + 4294967296 = (be c.gs * 256 + c.wt + 1) * 256 ^ (c.fu + 1) * 4294967296 + c.lo % 16777216 * 256
        rw [Nat.pow_succ, ← Nat.mul_assoc]
        exact give_full h1 (by omega)
      · show l + 1 = c.gs.length + (c.fu + 1) + 5
        omega
      · show c.lo % 16777216 * 256 + r * 256 ≤ _
        omega
      · show c.wt = 255 → c.lo % 16777216 * 256 + r * 256 ≤ _
        intro e
        have := h5 e
        omega

/-- k bytes are given -/
def Co.gives (c : Co) : Nat → Co
  | 0 => c
  | k + 1 => (c.gives k).give
theorem give_lo (c : Co) : c.give.lo = c.lo % 16777216 * 256 := by
  unfold Co.give
  split
  · rfl
  · split <;> rfl
theorem give_zero {c : Co} (h : c.lo = 0) : c.give.fu = 0 ∧ c.give.wt = 0 ∧ c.give.lo = 0 := by
  unfold Co.give
  rw [if_neg (by omega), if_pos (by omega)]
  exact ⟨rfl, by show c.lo / 16777216 = 0; omega, by show c.lo % 16777216 * 256 = 0; omega⟩
theorem CoN.gives {c : Co} {n l : Nat} (h : CoN c n l 1) : ∀ k, CoN (c.gives k) (n * 256 ^ k) (l + k) 1
  | 0 => by rw [Nat.pow_zero, Nat.mul_one]; exact h
  | k + 1 => by
    have := (CoN.gives h k).give (by decide)
    rw [Nat.pow_succ, ← Nat.mul_assoc]
    exact this.mono (by decide) (by decide)
/-- In the end all is given. -/
theorem CoN.finish {c : Co} {n l r : Nat} (h : CoN c n l r) : be (c.gives 5).gs = n ∧ (c.gives 5).gs.length = l := by
  have h0 := h.low
  have h5 := (h.mono h.pos (Nat.le_refl 1)).gives 5
  have l1 : (c.gives 1).lo = c.lo % 16777216 * 256 := give_lo _
  have l2 : (c.gives 2).lo = (c.gives 1).lo % 16777216 * 256 := give_lo _
  have l3 : (c.gives 3).lo = (c.gives 2).lo % 16777216 * 256 := give_lo _
  have l4 : (c.gives 4).lo = (c.gives 3).lo % 16777216 * 256 := give_lo _
  obtain ⟨z1, z2, z3⟩ : (c.gives 5).fu = 0 ∧ (c.gives 5).wt = 0 ∧ (c.gives 5).lo = 0 := give_zero (c := c.gives 4) (by omega)
  obtain ⟨k1, k2, _⟩ := h5
  rw [z1, z2, z3, Nat.pow_zero] at k1
  rw [z1] at k2
  exact ⟨by omega, by omega⟩

theorem gives_succ (c : Co) (k : Nat) : c.gives (k + 1) = (c.gives k).give := rfl
theorem give_fu (c : Co) : c.give.gs.length + c.give.fu = c.gs.length + c.fu + 1 := by
  unfold Co.give
  split
  · show (c.gave 1).length + 0 = _; rw [gave_len]; omega
  · split
    · show (c.gave 0).length + 0 = _; rw [gave_len]; omega
    · show c.gs.length + (c.fu + 1) = _; omega
theorem gives_len (c : Co) : ∀ k, (c.gives k).gs.length + (c.gives k).fu = c.gs.length + c.fu + k
  | 0 => rfl
  | k + 1 => by have := give_fu (c.gives k); have := gives_len c k; rw [gives_succ]; omega
end Go.Proofs.Ytdnkoeafnnohnaa

/-
  A source of bytes, whatever it is: which blocks it holds, which of them a call turns, how many bytes were given.
-/
namespace Go.Proofs.Ytdnkoeafnnohnaa
open Go.RowKit

/-- a source at block f: At w bs k: of the bytes bs k were given -/
structure Sc where
  f : Nat
  At : World → List UInt8 → Nat → Prop
  hold : Nat → Prop
  turn : Nat → Prop
/-- what it owes -/
structure ScOk (S : Sc) : Prop where
  tf : ∀ i, S.turn i → S.hold i
  only : ∀ {T : Nat → Prop} {w w' : World} {bs : List UInt8} {k : Nat}, S.At w bs k → Only T w w' → (∀ i, T i → ¬ S.hold i) → S.At w' bs k
  le : ∀ {w : World} {bs : List UInt8} {k : Nat}, S.At w bs k → k ≤ bs.length
  old : ∀ {w : World} {bs : List UInt8} {k i : Nat}, S.At w bs k → S.hold i → i < w.heap.size
  more : ∀ {w : World} {bs : List UInt8} {k : Nat}, S.At w bs k → k < bs.length →
    Calls Try.prog 73 #[.pointer (some ⟨S.f, 0, none⟩)] w fun e w' => e = .returned (.tuple #[.int .u8 ((bs.getD k 0).toNat : Int), .bool true]) ∧ S.At w' bs (k + 1) ∧ Only S.turn w w'
  done : ∀ {w : World} {bs : List UInt8}, S.At w bs bs.length →
    Calls Try.prog 73 #[.pointer (some ⟨S.f, 0, none⟩)] w fun e w' => e = .returned (.tuple #[.int .u8 0, .bool false]) ∧ S.At w' bs bs.length ∧ Only S.turn w w'

/-- a feed -/
def fdSc (fe lo : Nat) : Sc := ⟨fe, fun w bs k => Feed w fe lo bs k, fun i => lo ≤ i ∧ i ≤ fe, fun i => i = fe⟩
theorem fd_ok {fe lo : Nat} (hlo : lo ≤ fe) : ScOk (fdSc fe lo) where
  tf i hi := by
    have h : i = fe := hi
    subst h
    exact ⟨hlo, Nat.le_refl _⟩
  only := by
    intro T w w' bs k h hO hT
    refine Feed.only h hO (fun i hi => ?_)
    have h1 : ¬ (lo ≤ i ∧ i ≤ fe) := fun hh => hT i hi hh
    omega
  le h := Feed.le h
  old := by
    intro w bs k i h hi
    have h1 : i ≤ fe := hi.2
    have := Feed.lt h
    omega
  more := by
    intro w bs k h hk
    refine (feed_more h hk).mono ?_
    rintro e w' ⟨rfl, hF, hg⟩
    exact ⟨rfl, hF, Only.of_grown (S := fun i => i = fe) hg rfl⟩
  done := by
    intro w bs h
    refine (feed_end h).mono ?_
    rintro e w' ⟨rfl, d, rfl⟩
    exact ⟨rfl, h.drewN d, (Only.refl _ _).drewN d⟩
end Go.Proofs.Ytdnkoeafnnohnaa

/-
  The decoder's small calls: a byte comes in, the decoder is refused, what it told.
-/
namespace Go.Proofs.Ytdnkoeafnnohnaa
open Go.RowKit

def pdCells (f r c : Nat) (bad : Bool) : Array Value := #[.iface 37 (.pointer (some ⟨f, 0, none⟩)), .int .u32 (r : Int), .int .u32 (c : Int), .bool bad]

/-- what state cells tell -/
def Told (bs : List UInt8) (d : Dc) (at_ r k : Nat) (bad : Bool) : Prop :=
  at_ ≤ bs.length ∧ r < 4294967296 ∧ k < 4294967296 ∧ ((bad = true ∧ d = none) ∨ (bad = false ∧ d = some (r, k, bs.drop at_)))

/-- Block g is the decoder over the source S; its state is d. -/
def Pd (w : World) (g : Nat) (S : Sc) (bs : List UInt8) (d : Dc) : Prop :=
  ∃ at_ r c bad, Blk w g 91 (pdCells S.f r c bad) ∧ S.At w bs at_ ∧ ¬ S.hold g ∧ Told bs d at_ r c bad

/-- the decoder's own blocks, and those that its source turns -/
def two (S : Sc) (g : Nat) : Nat → Prop := fun i => S.turn i ∨ i = g
theorem u32_of (x : Int) (h0 : 0 ≤ x) (h : x < 4294967296) : IntKind.u32.wrap x = x := by
  simp [IntKind.wrap, IntKind.bits, IntKind.signed]; omega
theorem u32_or_byte (c x : Nat) (hc : c < 16777216) (hx : x < 256) : bits .or .u32 ((c : Int) * 256) (x : Int) = ((c * 256 + x : Nat) : Int) := by
  rw [show (c : Int) * 256 = ((c * 256 : Nat) : Int) by omega, u32_or_nat _ _ (by omega) (by omega)]
  congr 1
  rw [Nat.or_comm]
  exact nat_join 8 (c * 256) x (by omega) (by omega) |> fun h => by rw [Nat.or_comm]; exact h

theorem method_next (a : Addr) (w : World) : (method 216 37 (.pointer (some a)) "Next").run Try.prog w = .ok (73, .pointer (some a)) w := by kernel_rfl

section
variable {g r c at_ : Nat} {w : World} {bs : List UInt8} {S : Sc}

set_option maxHeartbeats 1000000 in
theorem shift_bad {f : Nat} (hB : Blk w g 91 (pdCells f r c true)) :
    Calls Try.prog 46 #[.pointer (some ⟨g, 0, none⟩)] w fun e w' => e = .returned (.tuple #[]) ∧ w = w' := by
  have h3 : w.cell? ⟨g, 3, none⟩ = some (.bool true) := hB.cell 3
  clear hB
  go_enter Try.func46, Try.ntmps46
  go_wp2_with fail
  first | go_end0 | refine bodyPost_ret (results_none rfl _ _ _) rfl ?_
  exact ⟨rfl, rfl⟩

theorem not_turn {S : Sc} {g : Nat} (hS : ScOk S) (hg : ¬ S.hold g) : ¬ S.turn g := fun h => hg (hS.tf _ h)

set_option maxHeartbeats 1000000 in
theorem shift_end (hS : ScOk S) (hB : Blk w g 91 (pdCells S.f r c false)) (hF : S.At w bs bs.length) (hg : ¬ S.hold g) :
    Calls Try.prog 46 #[.pointer (some ⟨g, 0, none⟩)] w fun e w' => e = .returned (.tuple #[]) ∧ Blk w' g 91 (pdCells S.f r c true) ∧ S.At w' bs bs.length ∧ Only (two S g) w w' := by
  have h3 : w.cell? ⟨g, 3, none⟩ = some (.bool false) := hB.cell 3
  have h0 : w.cell? ⟨g, 0, none⟩ = some (.iface 37 (.pointer (some ⟨S.f, 0, none⟩))) := hB.cell 0
  have K := Lib.hid (hS.done hF)
  have hm := method_next
  have HB := Lib.hid (And.intro hB (And.intro hg hS))
  clear hB hF hg hS
  go_enter Try.func46, Try.ntmps46
  go_wp2_with fail
  refine K.out.mono ?_
  rintro e w1 ⟨rfl, hF1, hO1⟩
  have hB1 := HB.out.1.only hO1 (not_turn HB.out.2.2 HB.out.2.1)
  have c3 : w1.cell? ⟨g, 3, none⟩ = some (.bool false) := hB1.cell 3
  have f3 : w1.frozen? ⟨g, 3, none⟩ = false := hB1.free 3
  have HF1 := Lib.hid (And.intro hF1 (And.intro hO1 hB1))
  clear hF1 hO1 hB1 h3 h0 K
  go_wp2_with fail
  first | go_end0 | refine bodyPost_ret (results_none rfl _ _ _) rfl ?_
  obtain ⟨hF1, hO1, hB1⟩ := HF1.out
  exact ⟨rfl, hB1.put 3 _, HB.out.2.2.only hF1 ((Only.refl (fun i => i = g) w1).setCell (p := ⟨g, 3, none⟩) (.inl rfl) _) (fun i hi => hi ▸ HB.out.2.1), (hO1.mono fun i hi => .inl hi).setCell (p := ⟨g, 3, none⟩) (.inl (.inr rfl)) _⟩

set_option maxHeartbeats 1000000 in
theorem shift_more (hS : ScOk S) (hB : Blk w g 91 (pdCells S.f r c false)) (hF : S.At w bs at_) (hg : ¬ S.hold g) (ha : at_ < bs.length) (hc : c < 16777216) :
    Calls Try.prog 46 #[.pointer (some ⟨g, 0, none⟩)] w fun e w' => e = .returned (.tuple #[]) ∧ Blk w' g 91 (pdCells S.f r (c * 256 + (bs.getD at_ 0).toNat) false) ∧ S.At w' bs (at_ + 1) ∧ Only (two S g) w w' := by
  have h3 : w.cell? ⟨g, 3, none⟩ = some (.bool false) := hB.cell 3
  have h0 : w.cell? ⟨g, 0, none⟩ = some (.iface 37 (.pointer (some ⟨S.f, 0, none⟩))) := hB.cell 0
  have K := Lib.hid (hS.more hF ha)
  have hm := method_next
  have HB := Lib.hid (And.intro hB (And.intro hg hS))
  clear hB hF hg hS
  have hx := (bs.getD at_ 0).toNat_lt
  generalize bs.getD at_ 0 = x at *
  have e1 : IntKind.u32.wrap ((c : Int) * 256) = (c : Int) * 256 := u32_of _ (by omega) (by omega)
  have e2 := u32_or_byte c x.toNat hc (by omega)
  have e3 : IntKind.u32.wrap (x.toNat : Int) = (x.toNat : Int) := u32_of _ (by omega) (by omega)
  go_enter Try.func46, Try.ntmps46
  go_wp2_with fail
  refine K.out.mono ?_
  rintro e w1 ⟨rfl, hF1, hO1⟩
  have hB1 := HB.out.1.only hO1 (not_turn HB.out.2.2 HB.out.2.1)
  have j2 : w1.cell? ⟨g, 2, none⟩ = some (.int .u32 (c : Int)) := hB1.cell 2
  have z2 : w1.frozen? ⟨g, 2, none⟩ = false := hB1.free 2
  have HF1 := Lib.hid (And.intro hF1 (And.intro hO1 hB1))
  clear hF1 hO1 hB1 h0 h3 K
  go_wp2_with fail
  first | go_end0 | refine bodyPost_ret (results_none rfl _ _ _) rfl ?_
  obtain ⟨hF1, hO1, hB1⟩ := HF1.out
  exact ⟨rfl, hB1.put 2 _, HB.out.2.2.only hF1 ((Only.refl (fun i => i = g) w1).setCell (p := ⟨g, 2, none⟩) (.inl rfl) _) (fun i hi => hi ▸ HB.out.2.1), (hO1.mono fun i hi => .inl hi).setCell (p := ⟨g, 2, none⟩) (.inl (.inr rfl)) _⟩

set_option maxHeartbeats 1000000 in
theorem refuse_any {f : Nat} {bad so : Bool} (hB : Blk w g 91 (pdCells f r c bad)) :
    Calls Try.prog 47 #[.pointer (some ⟨g, 0, none⟩), .bool so] w fun e w' => e = .returned (.tuple #[]) ∧ Blk w' g 91 (pdCells f r c (bad || so)) ∧ w.grownBy w' (some g) := by
  have h3 : w.cell? ⟨g, 3, none⟩ = some (.bool bad) := hB.cell 3
  have z3 : w.frozen? ⟨g, 3, none⟩ = false := hB.free 3
  have HB := Lib.hid hB
  clear hB
  cases bad
  · go_enter Try.func47, Try.ntmps47
    go_wp2_with fail
    first | go_end0 | refine bodyPost_ret (results_none rfl _ _ _) rfl ?_
    exact ⟨rfl, HB.out.put 3 _, only_setCell (World.grownBy.refl w _) (.inl rfl) _⟩
  · go_enter Try.func47, Try.ntmps47
    go_wp2_with fail
    first | go_end0 | refine bodyPost_ret (results_none rfl _ _ _) rfl ?_
    exact ⟨rfl, HB.out.put 3 _, only_setCell (World.grownBy.refl w _) (.inl rfl) _⟩

set_option maxHeartbeats 1000000 in
theorem told_any {f : Nat} {bad : Bool} {x : Int} (hB : Blk w g 91 (pdCells f r c bad)) :
    Calls Try.prog 56 #[.pointer (some ⟨g, 0, none⟩), .int .i64 x] w fun e w' => e = .returned (.int .i64 (if bad = true then 0 else x)) ∧ w = w' := by
  have h3 : w.cell? ⟨g, 3, none⟩ = some (.bool bad) := hB.cell 3
  clear hB
  cases bad
  all_goals
    go_enter Try.func56, Try.ntmps56
    go_wp2_with fail
    go_ret
    exact ⟨rfl, rfl⟩

set_option maxHeartbeats 1000000 in
theorem bad_any {f : Nat} {bad : Bool} (hB : Blk w g 91 (pdCells f r c bad)) :
    Calls Try.prog 51 #[.pointer (some ⟨g, 0, none⟩)] w fun e w' => e = .returned (.bool bad) ∧ w = w' := by
  have h3 : w.cell? ⟨g, 3, none⟩ = some (.bool bad) := hB.cell 3
  clear hB
  go_enter Try.func51, Try.ntmps51
  go_wp2_with fail
  go_ret
  exact ⟨rfl, rfl⟩

set_option maxHeartbeats 1000000 in
theorem done_any {f : Nat} {bad : Bool} (hB : Blk w g 91 (pdCells f r c bad)) :
    Calls Try.prog 34 #[.pointer (some ⟨g, 0, none⟩)] w fun e w' => e = .returned (.bool (!bad && decide (c = 0))) ∧ w = w' := by
  have h3 : w.cell? ⟨g, 3, none⟩ = some (.bool bad) := hB.cell 3
  have h2 : w.cell? ⟨g, 2, none⟩ = some (.int .u32 (c : Int)) := hB.cell 2
  clear hB
  cases bad
  · go_enter Try.func34, Try.ntmps34
    go_wp2_with fail
    go_ret
    exact ⟨ret_bool (by rw [Bool.eq_iff_iff]; simp), rfl⟩
  · go_enter Try.func34, Try.ntmps34
    go_wp2_with fail
    go_ret
    exact ⟨rfl, rfl⟩
end

/-- A byte comes in, ahead of which the state is not bad. -/
theorem shift_any {g r c at_ : Nat} {w : World} {bs : List UInt8} {S : Sc} (hS : ScOk S) (hB : Blk w g 91 (pdCells S.f r c false)) (hF : S.At w bs at_) (hg : ¬ S.hold g) (hc : c < 16777216) :
    Calls Try.prog 46 #[.pointer (some ⟨g, 0, none⟩)] w fun e w' => e = .returned (.tuple #[]) ∧
      ∃ at' c' bad', Blk w' g 91 (pdCells S.f r c' bad') ∧ S.At w' bs at' ∧ Only (two S g) w w' ∧
        ((bad' = true ∧ c' = c ∧ bs.drop at_ = []) ∨ ∃ x, bad' = false ∧ c' = c * 256 + x.toNat ∧ bs.drop at_ = x :: bs.drop at') := by
  by_cases hlt : at_ < bs.length
  · have hd : bs.drop at_ = bs[at_] :: bs.drop (at_ + 1) := List.drop_eq_getElem_cons hlt
    have hx : bs.getD at_ 0 = bs[at_] := by simp [List.getD, hlt]
    refine (shift_more hS hB hF hg hlt hc).mono ?_
    rintro e w' ⟨rfl, h1, h2, h3⟩
    rw [hx] at h1
    exact ⟨rfl, _, _, _, h1, h2, h3, .inr ⟨_, rfl, rfl, hd⟩⟩
  · have := hS.le hF
    obtain rfl : at_ = bs.length := by omega
    refine (shift_end hS hB hF hg).mono ?_
    rintro e w' ⟨rfl, h1, h2, h3⟩
    exact ⟨rfl, _, _, _, h1, h2, h3, .inl ⟨rfl, rfl, by simp⟩⟩
end Go.Proofs.Ytdnkoeafnnohnaa
