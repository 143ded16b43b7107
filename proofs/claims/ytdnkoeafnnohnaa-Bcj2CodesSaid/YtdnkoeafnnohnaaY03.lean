/-
  B2Enc, B2Back, Only, Pure, Arith, Info, SrcFeed, BytN, Byt: put together.
-/
import Derived.Test.YtdnkoeafnnohnaaY02
import Derived.Test.YtdnkoeafnnohnaaY01
import Derived.WalkKit
import Derived.Laws.BitsAllLaws
import Derived.Laws.BitsLemmas
import Derived.Test.YtdnkoeafnnohnaaRows
import Derived.Tactics
import Derived.Tactics2
import Derived.Laws.Pointers
import Derived.RegionTactic
import Derived.RegionCalls
import Derived.BigQuiet
import Derived.Lib.SliceRun
import Derived.Deep.AppendLies
import Derived.LoopTactic
set_option linter.unusedVariables false
set_option linter.unusedSimpArgs false
/-
  Bytes laid into four streams, as numbers; and back.
-/
namespace Go.Proofs.Ytdnkoeafnnohnaa

/-- four streams, as they are put -/
structure E2 where
  main : List UInt8
  call : List UInt8
  jump : List UInt8
  ps : List Nat
  e : En
def E2.cons (x : UInt8) (r : E2) : E2 := { r with main := x :: r.main }
def be4 (p : Nat) : List UInt8 := [UInt8.ofNat (p / 16777216), UInt8.ofNat (p / 65536), UInt8.ofNat (p / 256), UInt8.ofNat p]
def E2.puts (k p : Nat) (r : E2) : E2 := if k < 256 then { r with call := be4 p ++ r.call } else { r with jump := be4 p ++ r.jump }
/-- the byte ahead of a place -/
def ahd (b : List UInt8) (i : Nat) : Nat := if i = 0 then 0 else (b.getD (i - 1) 0).toNat
def le4 (b : List UInt8) (i : Nat) : Nat := (b.getD i 0).toNat + (b.getD (i + 1) 0).toNat * 256 + (b.getD (i + 2) 0).toNat * 65536 + (b.getD (i + 3) 0).toNat * 16777216
/-- the place of the target behind i -/
def plc (b : List UInt8) (i : Nat) : Nat := (le4 b (i + 1) + i + 5) % 4294967296
def apart (b : List UInt8) (i : Nat) : Bool := decide (4 < b.length - i) && decide (plc b i < b.length)
def enc (b : List UInt8) : Nat → Nat → List Nat → En → E2
  | 0, _, ps, e => ⟨[], [], [], ps, e⟩
  | f + 1, i, ps, e =>
    if i < b.length then
      match mark (ahd b i) (b.getD i 0).toNat with
      | none => (enc b f (i + 1) ps e).cons (b.getD i 0)
      | some k =>
        if i + 1 = b.length then (enc b f (i + 1) ps e).cons (b.getD i 0)
        else if apart b i = true then ((enc b f (i + 5) (ps.set k (upOf (ps.getD k 0) 1)) (e.bit (ps.getD k 0) 1)).puts k (plc b i)).cons (b.getD i 0)
        else (enc b f (i + 1) (ps.set k (upOf (ps.getD k 0) 0)) (e.bit (ps.getD k 0) 0)).cons (b.getD i 0)
    else ⟨[], [], [], ps, e⟩

section
variable {b : List UInt8}
theorem enc_end {f i : Nat} {ps : List Nat} {e : En} (h : ¬ i < b.length) : enc b f i ps e = ⟨[], [], [], ps, e⟩ := by
  cases f with
  | zero => rfl
  | succ f => unfold enc; rw [if_neg h]
theorem enc_none {f i : Nat} {ps : List Nat} {e : En} (h : i < b.length) (hm : mark (ahd b i) (b.getD i 0).toNat = none) : enc b (f + 1) i ps e = (enc b f (i + 1) ps e).cons (b.getD i 0) := by
  conv => lhs; unfold enc
  rw [if_pos h, hm]
theorem enc_last {f i k : Nat} {ps : List Nat} {e : En} (h : i + 1 = b.length) (hm : mark (ahd b i) (b.getD i 0).toNat = some k) : enc b (f + 1) i ps e = (enc b f (i + 1) ps e).cons (b.getD i 0) := by
  conv => lhs; unfold enc
  rw [if_pos (by omega), hm]
  exact if_pos h
theorem enc_zero {f i k : Nat} {ps : List Nat} {e : En} (h : i + 1 < b.length) (hm : mark (ahd b i) (b.getD i 0).toNat = some k) (ha : apart b i = false) :
    enc b (f + 1) i ps e = (enc b f (i + 1) (ps.set k (upOf (ps.getD k 0) 0)) (e.bit (ps.getD k 0) 0)).cons (b.getD i 0) := by
  conv => lhs; unfold enc
  rw [if_pos (by omega), hm]
  simp only []
  rw [if_neg (by omega), if_neg (by rw [ha]; simp)]
theorem enc_one {f i k : Nat} {ps : List Nat} {e : En} (h : i + 1 < b.length) (hm : mark (ahd b i) (b.getD i 0).toNat = some k) (ha : apart b i = true) :
    enc b (f + 1) i ps e = ((enc b f (i + 5) (ps.set k (upOf (ps.getD k 0) 1)) (e.bit (ps.getD k 0) 1)).puts k (plc b i)).cons (b.getD i 0) := by
  conv => lhs; unfold enc
  rw [if_pos (by omega), hm]
  simp only []
  rw [if_neg (by omega), if_pos ha]
theorem ahd_lt (b : List UInt8) (i : Nat) : ahd b i < 256 := by
  unfold ahd
  split
  · decide
  · exact UInt8.toNat_lt _
theorem apart_len {i : Nat} (h : apart b i = true) : i + 5 ≤ b.length := by
  unfold apart at h
  rw [Bool.and_eq_true] at h
  have := of_decide_eq_true h.1
  omega
/-- as many bytes as there are are put, and the coder stays right -/
theorem enc_ok : ∀ (f i : Nat) (ps : List Nat) (e : En), b.length - i ≤ f → i ≤ b.length → EnOk e → PsOk ps → ps.length = 258 →
    (enc b f i ps e).main.length + (enc b f i ps e).call.length + (enc b f i ps e).jump.length = b.length - i ∧ EnOk (enc b f i ps e).e ∧ PsOk (enc b f i ps e).ps ∧ (enc b f i ps e).ps.length = 258 ∧ Reach e (enc b f i ps e).e ∧ (enc b f i ps e).e.l ≤ e.l + (b.length - i)
  | 0, i, ps, e, hf, hi, he, hp, hl => by
    have : i = b.length := by omega
    exact ⟨by show 0 = _; omega, he, hp, hl, Reach.refl e, by show e.l ≤ _; omega⟩
  | f + 1, i, ps, e, hf, hi, he, hp, hl => by
    by_cases h : i < b.length
    · cases hm : mark (ahd b i) (b.getD i 0).toNat with
      | none =>
        rw [enc_none h hm]
        obtain ⟨h1, h2, h3, h4, h5, h6⟩ := enc_ok f (i + 1) ps e (by omega) h he hp hl
        refine ⟨?_, h2, h3, h4, h5, by show (enc b f (i + 1) ps e).e.l ≤ _; omega⟩
        show ((b.getD i 0) :: (enc b f (i + 1) ps e).main).length + (enc b f (i + 1) ps e).call.length + (enc b f (i + 1) ps e).jump.length = _
        rw [List.length_cons]
        omega
      | some k =>
        have hk := mark_lt (ahd_lt b i) hm
        have hg := getD_ok hp (show k < ps.length by omega)
        by_cases hlast : i + 1 = b.length
        · rw [enc_last hlast hm]
          obtain ⟨h1, h2, h3, h4, h5, h6⟩ := enc_ok f (i + 1) ps e (by omega) h he hp hl
          refine ⟨?_, h2, h3, h4, h5, by show (enc b f (i + 1) ps e).e.l ≤ _; omega⟩
          show ((b.getD i 0) :: (enc b f (i + 1) ps e).main).length + (enc b f (i + 1) ps e).call.length + (enc b f (i + 1) ps e).jump.length = _
          rw [List.length_cons]
          omega
        · cases ha : apart b i with
          | false =>
            rw [enc_zero (by omega) hm ha]
            have hbl := bit_len e (ps.getD k 0) 0
            obtain ⟨h1, h2, h3, h4, h5, h6⟩ := enc_ok f (i + 1) (ps.set k (upOf (ps.getD k 0) 0)) (e.bit (ps.getD k 0) 0) (by omega) h (bit_ok he hg) (psOk_set hp k (pOk_upOf hg)) (by rw [List.length_set]; exact hl)
            refine ⟨?_, h2, h3, h4, (bit_reach he hg).trans h5, by show (enc b f (i + 1) _ _).e.l ≤ _; omega⟩
            show ((b.getD i 0) :: (enc b f (i + 1) _ _).main).length + (enc b f (i + 1) _ _).call.length + (enc b f (i + 1) _ _).jump.length = _
            rw [List.length_cons]
            omega
          | true =>
            rw [enc_one (by omega) hm ha]
            have h5' := apart_len ha
            have hbl := bit_len e (ps.getD k 0) 1
            obtain ⟨h1, h2, h3, h4, h5, h6⟩ := enc_ok f (i + 5) (ps.set k (upOf (ps.getD k 0) 1)) (e.bit (ps.getD k 0) 1) (by omega) h5' (bit_ok he hg) (psOk_set hp k (pOk_upOf hg)) (by rw [List.length_set]; exact hl)
            unfold E2.puts
            split
            · refine ⟨?_, h2, h3, h4, (bit_reach he hg).trans h5, by show (enc b f (i + 5) _ _).e.l ≤ _; omega⟩
              show ((b.getD i 0) :: (enc b f (i + 5) _ _).main).length + (be4 (plc b i) ++ (enc b f (i + 5) _ _).call).length + (enc b f (i + 5) _ _).jump.length = _
              rw [List.length_cons, List.length_append]
              show _ + (4 + _) + _ = _
              omega
            · refine ⟨?_, h2, h3, h4, (bit_reach he hg).trans h5, by show (enc b f (i + 5) _ _).e.l ≤ _; omega⟩
              show ((b.getD i 0) :: (enc b f (i + 5) _ _).main).length + (enc b f (i + 5) _ _).call.length + (be4 (plc b i) ++ (enc b f (i + 5) _ _).jump).length = _
              rw [List.length_cons, List.length_append]
              show _ + _ + (4 + _) = _
              omega
    · rw [enc_end h]
      exact ⟨by show 0 = _; omega, he, hp, hl, Reach.refl e, by show e.l ≤ _; omega⟩

theorem take4_be {p : Nat} (hp : p < 4294967296) (t : List UInt8) : take4 (be4 p ++ t) = some (p, t) := by
  show some (_, t) = _
  congr 2
  have e0 : (UInt8.ofNat (p / 16777216)).toNat = p / 16777216 := by simp; omega
  have e1 : (UInt8.ofNat (p / 65536)).toNat = p / 65536 % 256 := by simp
  have e2 : (UInt8.ofNat (p / 256)).toNat = p / 256 % 256 := by simp
  have e3 : (UInt8.ofNat p).toNat = p % 256 := by simp
  rw [e0, e1, e2, e3]
  omega
theorem tgt_plc {i : Nat} (h : i + 5 ≤ b.length) (hb : b.length ≤ 1000000000) : tgt (plc b i) (i + 1) = le4 b (i + 1) := by
  unfold tgt wr32 plc le4
  have h0 := (b.getD (i + 1) 0).toNat_lt
  have h1 := (b.getD (i + 1 + 1) 0).toNat_lt
  have h2 := (b.getD (i + 1 + 2) 0).toNat_lt
  have h3 := (b.getD (i + 1 + 3) 0).toNat_lt
  omega
theorem leB_le4 (i : Nat) : leB (le4 b i) 4 = [b.getD i 0, b.getD (i + 1) 0, b.getD (i + 2) 0, b.getD (i + 3) 0] := by
  unfold le4
  have h0 := (b.getD i 0).toNat_lt
  have h1 := (b.getD (i + 1) 0).toNat_lt
  have h2 := (b.getD (i + 2) 0).toNat_lt
  have h3 := (b.getD (i + 3) 0).toNat_lt
  have k : ∀ (x : UInt8) (n : Nat), n = x.toNat → UInt8.ofNat n = x := fun x n h => by rw [h]; simp
  show [UInt8.ofNat _, UInt8.ofNat _, UInt8.ofNat _, UInt8.ofNat _] = _
  rw [k (b.getD i 0) _ (by omega), k (b.getD (i + 1) 0) _ (by omega), k (b.getD (i + 2) 0) _ (by omega), k (b.getD (i + 3) 0) _ (by omega)]
theorem lastB_le4 (a i : Nat) : lastB a (le4 b i) 4 = (b.getD (i + 3) 0).toNat := by
  unfold le4
  have h0 := (b.getD i 0).toNat_lt
  have h1 := (b.getD (i + 1) 0).toNat_lt
  have h2 := (b.getD (i + 2) 0).toNat_lt
  have h3 := (b.getD (i + 3) 0).toNat_lt
  show _ / 256 / 256 / 256 % 256 = _
  omega
theorem take_succ_getD {i : Nat} (h : i < b.length) : b.take i ++ [b.getD i 0] = b.take (i + 1) := by
  rw [List.take_succ_eq_append_getElem h]
  simp [List.getD, h]
theorem take_five {i : Nat} (h : i + 5 ≤ b.length) : b.take (i + 1) ++ [b.getD (i + 1) 0, b.getD (i + 1 + 1) 0, b.getD (i + 1 + 2) 0, b.getD (i + 1 + 3) 0] = b.take (i + 5) := by
  rw [← take_succ_getD (b := b) (i := i + 4) (by omega), ← take_succ_getD (b := b) (i := i + 3) (by omega), ← take_succ_getD (b := b) (i := i + 2) (by omega), ← take_succ_getD (b := b) (i := i + 1) (by omega)]
  simp

/-- What is coded is decoded as it was. -/
theorem enc_back {bs : List UInt8} {f0 : En} (hE : Ends bs f0) (hb : b.length ≤ 1000000000) : ∀ (f i : Nat) (ps : List Nat) (e : En), b.length - i ≤ f → i ≤ b.length → EnOk e → PsOk ps → ps.length = 258 → (enc b f i ps e).e = f0 →
    goR b.length (enc b f i ps e).main ⟨(enc b f i ps e).call, (enc b f i ps e).jump, decAt bs [] e, ps⟩ (b.take i) (ahd b i) = some b := by
  have done : ∀ (i : Nat) (ps : List Nat) (e : En), i = b.length → e = f0 → goR b.length [] ⟨[], [], decAt bs [] e, ps⟩ (b.take i) (ahd b i) = some b := by
    intro i ps e hi he
    subst hi he
    unfold goR
    rw [ends_dec hE]
    have h1 : b.length ≤ (b.take b.length).length := by simp
    rw [if_pos h1, if_pos (show K2.ends _ = true from rfl), List.take_length]
  intro f
  induction f with
  | zero =>
    intro i ps e hf hi he hp hl hend
    exact done i ps e (by omega) hend
  | succ f ih =>
    intro i ps e hf hi he hp hl hend
    by_cases h : i < b.length
    · have hlen : (b.take i).length = i := by rw [List.length_take]; omega
      have hgo : ∀ (m : List UInt8) (k : K2), goR b.length (b.getD i 0 :: m) k (b.take i) (ahd b i) = match aftB b.length k (b.take (i + 1)) (ahd b i) (b.getD i 0).toNat with
          | none => none
          | some (k', o', a') => goR b.length m k' o' a' := fun m k => by
        conv => lhs; unfold goR
        rw [if_neg (by omega), take_succ_getD h]
        rfl
      have hah : ahd b (i + 1) = (b.getD i 0).toNat := by unfold ahd; rw [if_neg (by omega), Nat.add_sub_cancel]
      have hln1 : (b.take (i + 1)).length = i + 1 := by rw [List.length_take]; omega
      cases hm : mark (ahd b i) (b.getD i 0).toNat with
      | none =>
        rw [enc_none h hm] at hend ⊢
        have := ih (i + 1) ps e (by omega) h he hp hl hend
        refine (hgo _ _).trans ?_
        unfold aftB
        rw [hm]
        rw [hah] at this
        exact this
      | some k =>
        have hk := mark_lt (ahd_lt b i) hm
        have hg := getD_ok hp (show k < ps.length by omega)
        by_cases hlast : i + 1 = b.length
        · rw [enc_last hlast hm] at hend ⊢
          have := ih (i + 1) ps e (by omega) h he hp hl hend
          refine (hgo _ _).trans ?_
          unfold aftB
          rw [hm]
          simp only []
          rw [if_pos (by rw [hln1]; exact hlast)]
          rw [hah] at this
          exact this
        · cases ha : apart b i with
          | false =>
            rw [enc_zero (by omega) hm ha] at hend ⊢
            have hr := (enc_ok (b := b) f (i + 1) (ps.set k (upOf (ps.getD k 0) 0)) (e.bit (ps.getD k 0) 0) (by omega) h (bit_ok he hg) (psOk_set hp k (pOk_upOf hg)) (by rw [List.length_set]; exact hl)).2.2.2.2.1
            have hd := bit_dec (more := []) hE he hg (show 0 ≤ 1 by decide) (hend ▸ hr)
            have := ih (i + 1) (ps.set k (upOf (ps.getD k 0) 0)) (e.bit (ps.getD k 0) 0) (by omega) h (bit_ok he hg) (psOk_set hp k (pOk_upOf hg)) (by rw [List.length_set]; exact hl) hend
            refine (hgo _ _).trans ?_
            unfold aftB
            rw [hm]
            simp only []
            rw [if_neg (by rw [hln1]; exact hlast)]
            unfold bitB
            simp only [hd]
            rw [hah] at this
            exact this
          | true =>
            rw [enc_one (by omega) hm ha] at hend ⊢
            have h5 := apart_len ha
            have hend' : (enc b f (i + 5) (ps.set k (upOf (ps.getD k 0) 1)) (e.bit (ps.getD k 0) 1)).e = f0 := by
              rw [← hend]
              unfold E2.puts
              split <;> rfl
            have hr := (enc_ok (b := b) f (i + 5) (ps.set k (upOf (ps.getD k 0) 1)) (e.bit (ps.getD k 0) 1) (by omega) h5 (bit_ok he hg) (psOk_set hp k (pOk_upOf hg)) (by rw [List.length_set]; exact hl)).2.2.2.2.1
            have hd := bit_dec (more := []) hE he hg (show 1 ≤ 1 by decide) (hend' ▸ hr)
            have := ih (i + 5) (ps.set k (upOf (ps.getD k 0) 1)) (e.bit (ps.getD k 0) 1) (by omega) h5 (bit_ok he hg) (psOk_set hp k (pOk_upOf hg)) (by rw [List.length_set]; exact hl) hend'
            have hpl : plc b i < 4294967296 := Nat.mod_lt _ (by decide)
            have hah5 : ahd b (i + 5) = (b.getD (i + 1 + 3) 0).toNat := by unfold ahd; rw [if_neg (by omega)]; rfl
            obtain ⟨dd, hdd⟩ : ∃ dd, decAt bs [] (e.bit (ps.getD k 0) 1) = some dd := ⟨_, rfl⟩
            rw [hdd] at hd this
            unfold E2.puts
            split
            · rename_i h256
              refine (hgo _ _).trans ?_
              unfold aftB
              rw [hm]
              simp only []
              rw [if_neg (by rw [hln1]; exact hlast)]
              unfold bitB
              simp only [E2.cons, hd]
              rw [if_neg (by rw [hln1]; omega), if_pos h256, take4_be hpl]
              simp only []
              rw [hln1, tgt_plc h5 hb, leB_le4, lastB_le4, take_five h5, ← hah5]
              exact this
            · rename_i h256
              refine (hgo _ _).trans ?_
              unfold aftB
              rw [hm]
              simp only []
              rw [if_neg (by rw [hln1]; exact hlast)]
              unfold bitB
              simp only [E2.cons, hd]
              rw [if_neg (by rw [hln1]; omega), if_neg h256, take4_be hpl]
              simp only []
              rw [hln1, tgt_plc h5 hb, leB_le4, lastB_le4, take_five h5, ← hah5]
              exact this
    · rw [enc_end h] at hend ⊢
      exact done i ps e (by omega) hend
end
end Go.Proofs.Ytdnkoeafnnohnaa

/-
  What is coded is decoded, and its numbers.
-/
namespace Go.Proofs.Ytdnkoeafnnohnaa

/-- four streams that hold what is coded -/
def Holds (b : List UInt8) (l : Nat → List UInt8) : Prop :=
  l 0 = (enc b b.length 0 (List.replicate 258 1024) En.new).main ∧ l 1 = (enc b b.length 0 (List.replicate 258 1024) En.new).call ∧ l 2 = (enc b b.length 0 (List.replicate 258 1024) En.new).jump ∧
    be (l 3) = (enc b b.length 0 (List.replicate 258 1024) En.new).e.n ∧ (l 3).length = (enc b b.length 0 (List.replicate 258 1024) En.new).e.l
/-- what is decoded, by the size -/
def ansD (l : Nat → List UInt8) (size : Nat) : Option (List UInt8) := goR size (l 0) ⟨l 1, l 2, started (l 3), List.replicate 258 1024⟩ [] 0

theorem holds_back {b : List UInt8} {l : Nat → List UInt8} (h : Holds b l) (hb : b.length ≤ 16384) : ansD l b.length = some b := by
  obtain ⟨h0, h1, h2, h3, h4⟩ := h
  obtain ⟨_, k2, _, _, k5, _⟩ := enc_ok (b := b) b.length 0 (List.replicate 258 1024) En.new (by omega) (Nat.zero_le _) enOk_new (fun p hp => by rw [List.eq_of_mem_replicate hp]; exact pOk_fresh) (List.length_replicate ..)
  have hE : Ends (l 3) (enc b b.length 0 (List.replicate 258 1024) En.new).e := ends_of k2 h3 h4
  have := enc_back hE (by omega) b.length 0 (List.replicate 258 1024) En.new (by omega) (Nat.zero_le _) enOk_new (fun p hp => by rw [List.eq_of_mem_replicate hp]; exact pOk_fresh) (List.length_replicate ..) rfl
  have hs := started_dec (more := []) hE k5
  rw [List.append_nil] at hs
  unfold ansD
  rw [h0, h1, h2, hs]
  exact this
theorem holds_awk {l : Nat → List UInt8} (h : Holds [232, 251, 255, 255, 255] l) : l 0 = [232] ∧ l 1 = [0, 0, 0, 0] ∧ (l 3).length = 5 := by
  obtain ⟨h0, h1, _, _, h4⟩ := h
  refine ⟨?_, ?_, ?_⟩
  · rw [h0]; decide +kernel
  · rw [h1]; decide +kernel
  · rw [h4]; decide +kernel
/-- no instructions -/
theorem enc_plain {b : List UInt8} (h : ∀ i, i < b.length → b.getD i 0 ≠ 232 ∧ b.getD i 0 ≠ 233 ∧ b.getD i 0 ≠ 15) :
    ∀ (f i : Nat) (ps : List Nat) (e : En), b.length - i ≤ f → i ≤ b.length → enc b f i ps e = ⟨b.drop i, [], [], ps, e⟩
  | 0, i, ps, e, hf, hi => by
    have : i = b.length := by omega
    subst this
    unfold enc
    rw [List.drop_length]
  | f + 1, i, ps, e, hf, hi => by
    by_cases hlt : i < b.length
    · have hm : mark (ahd b i) (b.getD i 0).toNat = none := by
        obtain ⟨g1, g2, _⟩ := h i hlt
        have z : ∀ x y : UInt8, x ≠ y → x.toNat ≠ y.toNat := fun x y hx hy => hx (UInt8.toNat_inj.1 hy)
        have a15 : ahd b i ≠ 15 := by
          unfold ahd
          split
          · decide
          · exact z _ 15 (h (i - 1) (by omega)).2.2
        unfold mark
        rw [if_neg (show ¬ (b.getD i 0).toNat = 232 from z _ 232 g1), if_neg (show ¬ (b.getD i 0).toNat = 233 from z _ 233 g2), if_neg (fun hh => a15 hh.1)]
      unfold enc
      rw [if_pos hlt, hm]
      show (enc b f (i + 1) ps e).cons (b.getD i 0) = _
      rw [enc_plain h f (i + 1) ps e (by omega) (by omega)]
      unfold E2.cons
      have hd : b.drop i = b.getD i 0 :: b.drop (i + 1) := by
        rw [List.drop_eq_getElem_cons hlt]; simp [List.getD, hlt]
      rw [hd]
    · have : i = b.length := by omega
      subst this
      rw [enc_end (Nat.lt_irrefl _), List.drop_length]
end Go.Proofs.Ytdnkoeafnnohnaa

/-
  What was there is as it was, but for the blocks of a set.
-/
namespace Go.Proofs.Ytdnkoeafnnohnaa
open Go.RowKit

structure Only (S : Nat → Prop) (a w : World) : Prop where
  os : w.os = a.os
  tape : w.tape = a.tape
  output : w.output = a.output
  size : a.heap.size ≤ w.heap.size
  block : ∀ i, i < a.heap.size → ¬ S i → w.heap[i]? = a.heap[i]?

section
variable {S S' : Nat → Prop} {a b c w w' : World}
theorem Only.refl (S : Nat → Prop) (w : World) : Only S w w := ⟨rfl, rfl, rfl, Nat.le_refl _, fun _ _ _ => rfl⟩
theorem Only.trans (h : Only S a b) (k : Only S b c) : Only S a c :=
  ⟨k.os.trans h.os, k.tape.trans h.tape, k.output.trans h.output, Nat.le_trans h.size k.size, fun i hi hn => (k.block i (Nat.lt_of_lt_of_le hi h.size) hn).trans (h.block i hi hn)⟩
theorem Only.mono (h : Only S a w) (hS : ∀ i, S i → S' i) : Only S' a w := ⟨h.os, h.tape, h.output, h.size, fun i hi hn => h.block i hi fun hs => hn (hS i hs)⟩
theorem Only.drewN (h : Only S a w) (n : Nat) : Only S a (w.drewN n) := ⟨h.os, h.tape, h.output, h.size, h.block⟩
theorem Only.drew (h : Only S a w) : Only S a w.drew := ⟨h.os, h.tape, h.output, h.size, h.block⟩
theorem Only.of_drewN {n : Nat} (h : Only S (a.drewN n) w) : Only S a w := ⟨h.os, h.tape, h.output, h.size, h.block⟩
theorem Only.of_drew (h : Only S a.drew w) : Only S a w := ⟨h.os, h.tape, h.output, h.size, h.block⟩
theorem Only.setCell (h : Only S a w) {p : Addr} (hp : S p.block ∨ a.heap.size ≤ p.block) (u : Value) : Only S a (w.setCell p u) :=
  ⟨h.os, h.tape, h.output, by simpa [World.setCell] using h.size, fun i hi hn => (Below.heap_setCell w p u i (by
    rintro rfl
    rcases hp with hp | hp
    · exact hn hp
    · omega)).trans (h.block i hi hn)⟩
theorem Only.alloc (h : Only S a w) (o : Obj) : Only S a (w.alloc o) :=
  ⟨h.os, h.tape, h.output, Nat.le_trans h.size (by simp), fun i hi hn => (Below.heap_alloc w o i (Nat.lt_of_lt_of_le hi h.size)).trans (h.block i hi hn)⟩
theorem Only.of_grown {g : Nat} (h : a.grownBy w (some g)) (hg : S g) : Only S a w := ⟨h.os, h.tape, h.output, h.size, fun i hi hn => h.block i hi fun e => by injection e with e; exact hn (e ▸ hg)⟩
theorem Only.of_below (h : Below a.heap.size a w) : Only S a w := ⟨h.os, h.tape, h.output, h.size, fun i hi _ => h.block i hi⟩
theorem Only.then (h : Only S a b) (k : Below b.heap.size b c) : Only S a c := h.trans (Only.of_below k)
theorem Only.below {B : Nat} (h : Only S a w) (hB : B ≤ a.heap.size) (hS : ∀ i, S i → B ≤ i) : Below B a w :=
  ⟨h.os, h.tape, h.output, h.size, fun i hi => h.block i (by omega) fun hs => by have := hS i hs; omega⟩
theorem Only.trans' (h : Only S a b) (k : Only S' b c) (hS : ∀ i, S' i → S i ∨ a.heap.size ≤ i) : Only S a c :=
  ⟨k.os.trans h.os, k.tape.trans h.tape, k.output.trans h.output, Nat.le_trans h.size k.size, fun i hi hn => (k.block i (Nat.lt_of_lt_of_le hi h.size) (fun hs => by
    rcases hS i hs with h1 | h1
    · exact hn h1
    · omega)).trans (h.block i hi hn)⟩
theorem Only.cell (h : Only S w w') {p : Addr} (hp : p.block < w.heap.size) (hn : ¬ S p.block) : w'.cell? p = w.cell? p := World.cell?_of_block (h.block _ hp hn)
theorem Blk.only {g : Nat} {t : TypeId} {cs : Array Value} (h : Blk w g t cs) (hb : Only S w w') (hg : ¬ S g) : Blk w' g t cs := (hb.block g h.lt hg).trans h
theorem Sl.only {A : Option Addr} {n : Nat} {xs : List Value} (h : Sl w A n xs) (hb : Only S w w') (hne : 0 < n → ∀ b o, A = some ⟨b, o, none⟩ → ¬ S b) : Sl w' A n xs :=
  h.keep hb.size fun hn b o e hlt => hb.block b hlt (hne hn b o e)
theorem own_only {base : Nat} {e : TypeId} {g n c : Nat} {xs : List Value} (h : w.ownsRow base e 1 (.slice (some ⟨g, 0, none⟩) n c) n xs) (hb : Only S w w') (hg : ¬ S g) : w'.ownsRow base e 1 (.slice (some ⟨g, 0, none⟩) n c) n xs := by
  refine ⟨h.1, ?_⟩
  rcases h.2 with ⟨hv, _⟩ | ⟨g', cap, cur, hv, hb', hh, r⟩
  · cases hv
  · refine .inr ⟨g', cap, cur, hv, hb', ?_, r⟩
    injection hv with h1
    injection h1 with h1
    injection h1 with h1
    subst h1
    have hlt : g < w.heap.size := by
      rcases Nat.lt_or_ge g w.heap.size with hlt | hge
      · exact hlt
      · rw [Array.getElem?_eq_none hge] at hh; cases hh
    exact (hb.block g hlt hg).trans hh
end
end Go.Proofs.Ytdnkoeafnnohnaa

/-
  Numbers and rows as the document has them, over lists of bytes: plain mathematics, no program.
-/
namespace Go.Proofs.Ytdnkoeafnnohnaa

/-- bytes as a number, the least first -/
def leVal : List UInt8 → Nat
  | [] => 0
  | b :: r => b.toNat + 256 * leVal r

/-- the size least bytes of v, the least first -/
def leBytes (size v : Nat) : List UInt8 := (List.range size).map fun i => UInt8.ofNat (v / 256 ^ i % 256)
/-- how many bytes follow the first of the shortest short number that is v: k -/
structure IsFol (v k : Nat) : Prop where
  le : k ≤ 8
  lt : k < 8 → v < 2 ^ (7 * k + 7)
  ge : ∀ j, j < k → 2 ^ (7 * j + 7) ≤ v
def folAux (v : Nat) : Nat → Nat → Nat
  | 0, k => k
  | f + 1, k => if v < 2 ^ (7 * k + 7) then k else folAux v f (k + 1)
def fol (v : Nat) : Nat := folAux v 8 0
/-- what stands above the following bytes -/
theorem IsFol.top {v k : Nat} (h : IsFol v k) (hv : v < 18446744073709551616) : v / 256 ^ k < 2 ^ (7 - k) ∧ (7 ≤ k → v / 256 ^ k = 0) := by
  have hk := h.le
  have h1 := h.lt
  have : k = 0 ∨ k = 1 ∨ k = 2 ∨ k = 3 ∨ k = 4 ∨ k = 5 ∨ k = 6 ∨ k = 7 ∨ k = 8 := by omega
  rcases this with rfl | rfl | rfl | rfl | rfl | rfl | rfl | rfl | rfl <;> simp at h1 ⊢ <;> omega
/-- the shortest short number that is v -/
def shortBytes (v : Nat) : List UInt8 := UInt8.ofNat (256 - 2 ^ (8 - fol v) + v / 256 ^ fol v) :: leBytes (fol v) v
end Go.Proofs.Ytdnkoeafnnohnaa

/-
  Arithmetic of fixed width as the walk writes it: shifts, or, and, and sums that do not wrap.
-/
namespace Go.Proofs.Ytdnkoeafnnohnaa
open Go.RowKit

theorem u64_in (x : Nat) (h : x < 18446744073709551616) : IntKind.u64.wrap (x : Int) = (x : Int) := by
  rw [IntKind.wrap_u64]; omega
end Go.Proofs.Ytdnkoeafnnohnaa

/-
  What a type's facts say, in parts.
-/
namespace Go.Proofs.Ytdnkoeafnnohnaa
open Go.RowKit

theorem info_parts {P : Program} {t : TypeId} {z : Value} {s b : Nat} (h : (P.info? t).map (fun i => (i.zero, i.size, i.bytes)) = some (some z, s, b)) : ∃ i, P.info? t = some i ∧ i.zero = some z ∧ i.size = s ∧ i.bytes = b := by
  cases hi : P.info? t with
  | none => rw [hi] at h; cases h
  | some i =>
    rw [hi] at h
    simp only [Option.map_some, Option.some.injEq, Prod.mk.injEq] at h
    exact ⟨i, rfl, h.1, h.2.1, h.2.2⟩
theorem info_u8 : (Try.prog.info? 5).map (fun i => (i.zero, i.size, i.bytes)) = some (some (.int .u8 0), 1, 1) := by kernel_rfl

end Go.Proofs.Ytdnkoeafnnohnaa

/-
  A feed: made of bytes, it gives each once, in order. Its row lies from block lo on, ahead of its own block.
-/
namespace Go.Proofs.Ytdnkoeafnnohnaa
open Go.RowKit

set_option maxRecDepth 100000 in
set_option maxHeartbeats 2000000 in
theorem clone_any {A : Option Addr} {n c : Nat} {bs : List UInt8} {w : World} (hS : Sl w A n (bv bs)) (hm : n ≤ 1000000000) :
    Calls Try.prog 30 #[.slice A n c] w fun e w' =>
      ∃ A' c', e = .returned (.slice A' n c') ∧ w'.ownsRow w.heap.size 5 1 (.slice A' n c') n (bv bs) ∧ Below w.heap.size w w' := by
  obtain ⟨i, hi, hz0, hz1, hz2⟩ := info_parts info_u8
  have hq := fun (w : World) (A : Option Addr) (n c : Nat) => Lib.run_eql_slice_nil (P := Try.prog) w 22 5 A n c 0 0 Try.underlying22
  go_enter Try.func30, Try.ntmps30
  go_wp2_with (at_builtin; refine wpList_app _ rfl (.tmp 5) (.tmp 6) 22 rfl w.heap.size 5 i _ 1 Try.underlying22 hi hz0 hz1 hz2 rfl _ 0 [] rfl (own_empty w (Nat.le_refl _) _) A n c (bv bs) rfl (hS.alloc _) (bv_one bs) (by omega) (by omega) (by simp) ?_)
  · go_ret
    rename_i hA
    have hA' : A = none := by simpa using hA
    have hn : n = 0 := by
      rcases Nat.eq_zero_or_pos n with h | h
      · exact h
      · obtain ⟨_, _, e, _⟩ := hS.2 h
        rw [hA'] at e; cases e
    subst hn
    have hb : bv bs = [] := List.eq_nil_of_length_eq_zero hS.1
    rw [hb]
    exact ⟨none, 0, rfl, World.ownsRow_nil w _ _ 1, Below.refl _ _⟩
  · intro A' c' w' ho hg
    have HO := Lib.hid ho
    have HG := Lib.hid hg
    clear ho hg
    go_wp2
    go_ret
    have ho := HO.out
    simp only [] at ho ⊢
    refine ⟨A', c', rfl, ho, ?_⟩
    exact ((Below.refl _ _).alloc (Nat.le_refl _) _).trans (below_of_only HG.out (Nat.le_refl _) (by simp))

/-- At block g stands a feed over the bytes bs, whose row lies from block lo on and ahead of g; k were given. -/
def Feed (w : World) (g lo : Nat) (bs : List UInt8) (k : Nat) : Prop :=
  ∃ A c, Blk w g 74 #[.slice A bs.length c, .int .i64 (k : Int)] ∧ Sl w A bs.length (bv bs) ∧ bs.length ≤ c ∧ c ≤ maxLen ∧ k ≤ bs.length ∧ lo ≤ g ∧ (0 < bs.length → ∀ b o, A = some ⟨b, o, none⟩ → lo ≤ b ∧ b < g)

theorem Feed.lt {w : World} {g lo : Nat} {bs : List UInt8} {k : Nat} (h : Feed w g lo bs k) : g < w.heap.size := by
  obtain ⟨_, _, hB, _⟩ := h
  exact hB.lt
theorem Feed.le {w : World} {g lo : Nat} {bs : List UInt8} {k : Nat} (h : Feed w g lo bs k) : k ≤ bs.length := by
  obtain ⟨_, _, _, _, _, _, h, _⟩ := h
  exact h
theorem Feed.lo {w : World} {g lo : Nat} {bs : List UInt8} {k : Nat} (h : Feed w g lo bs k) : lo ≤ g := by
  obtain ⟨_, _, _, _, _, _, _, h, _⟩ := h
  exact h
theorem Feed.drewN {w : World} {g lo : Nat} {bs : List UInt8} {k : Nat} (h : Feed w g lo bs k) (n : Nat) : Feed (w.drewN n) g lo bs k := h
theorem Feed.only {S : Nat → Prop} {w w' : World} {g lo : Nat} {bs : List UInt8} {k : Nat} (h : Feed w g lo bs k) (hb : Only S w w') (hS : ∀ i, S i → i < lo ∨ g < i) : Feed w' g lo bs k := by
  obtain ⟨A, c, hB, hs, h1, h2, h3, h4, h5⟩ := h
  refine ⟨A, c, hB.only hb (fun h => ?_), hs.only hb (fun hn b o e h => ?_), h1, h2, h3, h4, h5⟩
  · have := hS g h; omega
  · have := hS b h
    have := h5 hn b o e
    omega

set_option maxHeartbeats 400000 in
theorem newFeed_any {A : Option Addr} {n c : Nat} {bs : List UInt8} {w : World} (hS : Sl w A n (bv bs)) (hm : n ≤ 1000000000) :
    Calls Try.prog 16 #[.slice A n c] w fun e w' =>
      ∃ g, e = .returned (.pointer (some ⟨g, 0, none⟩)) ∧ w.heap.size ≤ g ∧ Feed w' g w.heap.size bs 0 ∧ Below w.heap.size w w' := by
  go_enter Try.func16, Try.ntmps16
  go_wp2_with (go_at_call 30; refine (clone_any hS hm).mono ?_; rintro e w' ⟨A', c', rfl, ho, hb⟩; have HO := Lib.hid ho; have HB := Lib.hid hb; clear ho hb)
  go_ret
  have hl : n = bs.length := by rw [← hS.1, bv_length]
  subst hl
  obtain ⟨h1, h2, h3, h4⟩ := own_facts HO.out
  exact ⟨_, rfl, HB.out.size, ⟨A', c', Blk.fresh _ _ _, h1.alloc _, h2, h3, by omega, HB.out.size, fun _ b o e => h4 b o e⟩, HB.out.alloc HB.out.size _⟩

set_option maxHeartbeats 400000 in
theorem feed_end {g lo : Nat} {bs : List UInt8} {w : World} (h : Feed w g lo bs bs.length) :
    Calls Try.prog 73 #[.pointer (some ⟨g, 0, none⟩)] w fun e w' => e = .returned (.tuple #[.int .u8 0, .bool false]) ∧ ∃ d, w.drewN d = w' := by
  obtain ⟨A, c, hB, hS, h1, h2, h3, h4, h5⟩ := h
  unfold maxLen at h2
  have c0 : w.cell? ⟨g, 0, none⟩ = some (.slice A bs.length c) := hB.cell 0
  have c1 : w.cell? ⟨g, 1, none⟩ = some (.int .i64 (bs.length : Int)) := hB.cell 1
  clear hB hS h4 h5
  go_enter Try.func73, Try.ntmps73
  go_wp2
  go_quiet (fail)
  go_wp2
  go_ret2
  exact ⟨rfl, _, rfl⟩

set_option maxHeartbeats 400000 in
theorem feed_more {g lo : Nat} {bs : List UInt8} {k : Nat} {w : World} (h : Feed w g lo bs k) (hk : k < bs.length) :
    Calls Try.prog 73 #[.pointer (some ⟨g, 0, none⟩)] w fun e w' => e = .returned (.tuple #[.int .u8 ((bs.getD k 0).toNat : Int), .bool true]) ∧ Feed w' g lo bs (k + 1) ∧ w.grownBy w' (some g) := by
  obtain ⟨A, c, hB, hS, h1, h2, h3, h4, h5⟩ := h
  have hm := h2
  unfold maxLen at hm
  obtain ⟨b, o, rfl, hlt, hc⟩ := hS.2 (by omega)
  have hbg : b ≠ g := by have := (h5 (by omega) b o rfl).2; omega
  have c0 : w.cell? ⟨g, 0, none⟩ = some (.slice (some ⟨b, o, none⟩) bs.length c) := hB.cell 0
  have c1 : w.cell? ⟨g, 1, none⟩ = some (.int .i64 (k : Int)) := hB.cell 1
  have f1 : w.frozen? ⟨g, 1, none⟩ = false := hB.free 1
  have cx : w.cell? ⟨b, o + k, none⟩ = some (.int .u8 ((bs.getD k 0).toNat : Int)) := by rw [hc k hk, bv_get _ _ hk]
  generalize bs.getD k 0 = x at cx
  have hne : ((k : Int) == (bs.length : Int)) = false := by simp; omega
  have HB := Lib.hid hB
  have HS := Lib.hid hS
  have H5 := Lib.hid h5
  generalize hn : bs.length = n at *
  have HN := Lib.hid hn
  clear hB hS h5 hc hn
  go_enter Try.func73, Try.ntmps73
  go_wp2
  go_quiet (fail)
  go_wp2
  go_quiet (fail)
  go_wp2
  go_ret2
  refine ⟨rfl, ?_, ?_⟩
  · have hn := HN.out
    subst hn
    refine ⟨some ⟨b, o, none⟩, c, ?_, ?_, h1, h2, by omega, h4, H5.out⟩
    · exact (HB.out.drewN _).put 1 _
    · exact (HS.out.drewN _).grown (only_setCell (World.grownBy.refl _ _) (.inl rfl) _) (fun hn b' o' e => Nat.ne_of_lt (H5.out hn b' o' e).2)
  · exact only_of_drewN (only_setCell (World.grownBy.refl _ _) (.inl rfl) _)
end Go.Proofs.Ytdnkoeafnnohnaa

/-
  A row of bytes of the call's own, its block named; rows compared.
-/
namespace Go.Proofs.Ytdnkoeafnnohnaa
open Go.RowKit

/-- Block q holds the bytes bs. -/
def Byt (w : World) (q c : Nat) (bs : List UInt8) : Prop := w.ownsRow 0 5 1 (.slice (some ⟨q, 0, none⟩) bs.length c) bs.length (bv bs)

theorem bv_set (bs : List UInt8) (i : Nat) (y : UInt8) : (bv bs).set i (.int .u8 (y.toNat : Int)) = bv (bs.set i y) := by
  simp [bv, List.map_set]

section
variable {w w' : World} {q c : Nat} {bs : List UInt8}
theorem Byt.cell (h : Byt w q c bs) {i : Nat} (hi : i < bs.length) : w.cell? ⟨q, i, none⟩ = some (.int .u8 ((bs.getD i 0).toNat : Int)) := by
  rw [World.ownsRow.cellAt h i (by omega), bv_get bs i hi]
theorem Byt.free (h : Byt w q c bs) (i : Nat) : w.frozen? ⟨q, i, none⟩ = false := World.ownsRow.frozenAt h i
theorem Byt.put (h : Byt w q c bs) (i : Nat) (y : UInt8) : Byt (w.setCell ⟨q, i, none⟩ (.int .u8 (y.toNat : Int))) q c (bs.set i y) := by
  have := (World.ownsRow.stored h i (.int .u8 (y.toNat : Int))).1
  rw [bv_set] at this
  unfold Byt
  rw [List.length_set]
  exact this
theorem Byt.drewN (h : Byt w q c bs) (n : Nat) : Byt (w.drewN n) q c bs := h
theorem Byt.only {S : Nat → Prop} (h : Byt w q c bs) (hb : Only S w w') (hS : ¬ S q) : Byt w' q c bs := own_only h hb hS
theorem Byt.lt (h : Byt w q c bs) : q < w.heap.size := (World.ownsRow.lt h q rfl).2
theorem Byt.own (h : Byt w q c bs) : w.ownsRow 0 5 1 (.slice (some ⟨q, 0, none⟩) bs.length c) bs.length (bv bs) := h
theorem Byt.sl (h : Byt w q c bs) : Sl w (some ⟨q, 0, none⟩) bs.length (bv bs) := (own_facts h).1
theorem Byt.cap (h : Byt w q c bs) : bs.length ≤ c ∧ c ≤ maxLen := by
  obtain ⟨_, h2, h3, _⟩ := own_facts h
  exact ⟨h2, h3⟩
end

/-- a byte in the midst is another one -/
theorem be_set : ∀ (cs : List UInt8) (k : Nat) (z : UInt8), k < cs.length → be (cs.set k z) + (cs.getD k 0).toNat * 256 ^ (cs.length - 1 - k) = be cs + z.toNat * 256 ^ (cs.length - 1 - k) := by
  intro cs k z hk
  have e1 : cs = cs.take k ++ (cs[k] :: cs.drop (k + 1)) := by rw [← List.drop_eq_getElem_cons hk, List.take_append_drop]
  have e2 : cs.set k z = cs.take k ++ (z :: cs.drop (k + 1)) := by
    have := List.set_eq_take_append_cons_drop (l := cs) (i := k) (a := z)
    rw [this, if_pos hk]
  have e3 : cs.getD k 0 = cs[k] := by simp [List.getD, hk]
  have hl : (cs.drop (k + 1)).length = cs.length - 1 - k := by rw [List.length_drop]; omega
  have one : ∀ y : UInt8, be (cs.take k ++ (y :: cs.drop (k + 1))) = be (cs.take k) * 256 ^ (cs.length - 1 - k + 1) + (y.toNat * 256 ^ (cs.length - 1 - k) + be (cs.drop (k + 1))) := by
    intro y
    have hc : y :: cs.drop (k + 1) = [y] ++ cs.drop (k + 1) := rfl
    rw [be_append, hc, be_append, List.length_append, hl]
    simp only [List.length_singleton]
    rw [show be [y] = y.toNat by simp [be], Nat.add_comm 1]
  have f1 : be (cs.set k z) = be (cs.take k) * 256 ^ (cs.length - 1 - k + 1) + (z.toNat * 256 ^ (cs.length - 1 - k) + be (cs.drop (k + 1))) := by rw [e2]; exact one z
  have f2 : be cs = be (cs.take k) * 256 ^ (cs.length - 1 - k + 1) + ((cs[k]).toNat * 256 ^ (cs.length - 1 - k) + be (cs.drop (k + 1))) := by
    have := one cs[k]
    rwa [← e1] at this
  rw [f1, f2, e3]
  omega

set_option maxHeartbeats 1000000 in
theorem bytesSame_any {A B : Option Addr} {n ca cb : Nat} {bs : List UInt8} {w : World} (hA : Sl w A n (bv bs)) (hB : Sl w B n (bv bs)) (hn : n ≤ 1000000000) :
    Calls Try.prog 11 #[.slice A n ca, .slice B n cb] w fun e w' => e = .returned (.bool true) ∧ ∃ d, w.drewN d = w' := by
  have HA := Lib.hid hA
  have HB := Lib.hid hB
  have hl : bs.length = n := by rw [← bv_length]; exact hA.1
  have HL := Lib.hid hl
  clear hA hB hl
  go_enter Try.func11, Try.ntmps11
  go_wp2_with fail
  go_loopw [5] (fun i wr => ∃ j k : Nat, j ≤ n ∧ i = .int .i64 (j : Int) ∧ wr = w.drewN k) (fun i _ => n - (intOf i).toNat)
  case atStart => exact ⟨0, 0, Nat.zero_le _, rfl, rfl⟩
  case round =>
    obtain ⟨j, k, hj, rfl, rfl⟩ := hrel
    by_cases hlt : j < n
    · obtain ⟨ba, oa, rfl, hba, hca⟩ := HA.out.2 (by omega)
      obtain ⟨bb, ob, rfl, hbb, hcb⟩ := HB.out.2 (by omega)
      have c1 : w.cell? ⟨ba, oa + j, none⟩ = some (.int .u8 ((bs.getD j 0).toNat : Int)) := by rw [hca j hlt, bv_get bs j (by have := HL.out; omega)]
      have c2 : w.cell? ⟨bb, ob + j, none⟩ = some (.int .u8 ((bs.getD j 0).toNat : Int)) := by rw [hcb j hlt, bv_get bs j (by have := HL.out; omega)]
      generalize bs.getD j 0 = x at *
      have i0 : (0 : Int) ≤ (j : Int) := by omega
      have i1 : (j : Int) < (n : Int) := by omega
      clear hca hcb
      go_wp2_with fail
      go_quiet (fail)
      go_wp2_with fail
      go_roundw
      case rel => exact ⟨j + 1, k + nq, by omega, by go_num, rfl⟩
      case measure => simp [intOf]; omega
    · obtain rfl : j = n := by omega
      go_wp2_with fail
      go_ret
      exact ⟨rfl, _, rfl⟩
end Go.Proofs.Ytdnkoeafnnohnaa


