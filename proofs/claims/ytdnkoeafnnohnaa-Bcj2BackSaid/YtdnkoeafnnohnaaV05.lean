/-
  B2Enc, B2Back: put together.
-/
import Derived.Test.YtdnkoeafnnohnaaV03
import Derived.Test.YtdnkoeafnnohnaaV04
set_option linter.unusedVariables false
set_option linter.unusedSimpArgs false
/-
  Bytes laid into four streams, as numbers; and back.
-/
namespace Go.Proofs.Ytdnkoeafnnohnaa

/-- four streams, as they are put -/
structure E2 where
  main : List UInt8
  call : List UInt8
  jump : List UInt8
  ps : List Nat
  e : En
def E2.cons (x : UInt8) (r : E2) : E2 := { r with main := x :: r.main }
def be4 (p : Nat) : List UInt8 := [UInt8.ofNat (p / 16777216), UInt8.ofNat (p / 65536), UInt8.ofNat (p / 256), UInt8.ofNat p]
def E2.puts (k p : Nat) (r : E2) : E2 := if k < 256 then { r with call := be4 p ++ r.call } else { r with jump := be4 p ++ r.jump }
/-- the byte ahead of a place -/
def ahd (b : List UInt8) (i : Nat) : Nat := if i = 0 then 0 else (b.getD (i - 1) 0).toNat
def le4 (b : List UInt8) (i : Nat) : Nat := (b.getD i 0).toNat + (b.getD (i + 1) 0).toNat * 256 + (b.getD (i + 2) 0).toNat * 65536 + (b.getD (i + 3) 0).toNat * 16777216
/-- the place of the target behind i -/
def plc (b : List UInt8) (i : Nat) : Nat := (le4 b (i + 1) + i + 5) % 4294967296
def apart (b : List UInt8) (i : Nat) : Bool := decide (4 < b.length - i) && decide (plc b i < b.length)
def enc (b : List UInt8) : Nat → Nat → List Nat → En → E2
  | 0, _, ps, e => ⟨[], [], [], ps, e⟩
  | f + 1, i, ps, e =>
    if i < b.length then
      match mark (ahd b i) (b.getD i 0).toNat with
      | none => (enc b f (i + 1) ps e).cons (b.getD i 0)
      | some k =>
        if i + 1 = b.length then (enc b f (i + 1) ps e).cons (b.getD i 0)
        else if apart b i = true then ((enc b f (i + 5) (ps.set k (upOf (ps.getD k 0) 1)) (e.bit (ps.getD k 0) 1)).puts k (plc b i)).cons (b.getD i 0)
        else (enc b f (i + 1) (ps.set k (upOf (ps.getD k 0) 0)) (e.bit (ps.getD k 0) 0)).cons (b.getD i 0)
    else ⟨[], [], [], ps, e⟩

section
variable {b : List UInt8}
theorem enc_end {f i : Nat} {ps : List Nat} {e : En} (h : ¬ i < b.length) : enc b f i ps e = ⟨[], [], [], ps, e⟩ := by
  cases f with
  | zero => rfl
  | succ f => unfold enc; rw [if_neg h]
theorem enc_none {f i : Nat} {ps : List Nat} {e : En} (h : i < b.length) (hm : mark (ahd b i) (b.getD i 0).toNat = none) : enc b (f + 1) i ps e = (enc b f (i + 1) ps e).cons (b.getD i 0) := by
  conv => lhs; unfold enc
  rw [if_pos h, hm]
theorem enc_last {f i k : Nat} {ps : List Nat} {e : En} (h : i + 1 = b.length) (hm : mark (ahd b i) (b.getD i 0).toNat = some k) : enc b (f + 1) i ps e = (enc b f (i + 1) ps e).cons (b.getD i 0) := by
  conv => lhs; unfold enc
  rw [if_pos (by omega), hm]
  exact if_pos h
theorem enc_zero {f i k : Nat} {ps : List Nat} {e : En} (h : i + 1 < b.length) (hm : mark (ahd b i) (b.getD i 0).toNat = some k) (ha : apart b i = false) :
    enc b (f + 1) i ps e = (enc b f (i + 1) (ps.set k (upOf (ps.getD k 0) 0)) (e.bit (ps.getD k 0) 0)).cons (b.getD i 0) := by
  conv => lhs; unfold enc
  rw [if_pos (by omega), hm]
  simp only []
  rw [if_neg (by omega), if_neg (by rw [ha]; simp)]
theorem enc_one {f i k : Nat} {ps : List Nat} {e : En} (h : i + 1 < b.length) (hm : mark (ahd b i) (b.getD i 0).toNat = some k) (ha : apart b i = true) :
    enc b (f + 1) i ps e = ((enc b f (i + 5) (ps.set k (upOf (ps.getD k 0) 1)) (e.bit (ps.getD k 0) 1)).puts k (plc b i)).cons (b.getD i 0) := by
  conv => lhs; unfold enc
  rw [if_pos (by omega), hm]
  simp only []
  rw [if_neg (by omega), if_pos ha]
theorem ahd_lt (b : List UInt8) (i : Nat) : ahd b i < 256 := by
  unfold ahd
  split
  · decide
  · exact UInt8.toNat_lt _
theorem apart_len {i : Nat} (h : apart b i = true) : i + 5 ≤ b.length := by
  unfold apart at h
  rw [Bool.and_eq_true] at h
  have := of_decide_eq_true h.1
  omega
/-- as many bytes as there are are put, and the coder stays right -/
theorem enc_ok : ∀ (f i : Nat) (ps : List Nat) (e : En), b.length - i ≤ f → i ≤ b.length → EnOk e → PsOk ps → ps.length = 258 →
    (enc b f i ps e).main.length + (enc b f i ps e).call.length + (enc b f i ps e).jump.length = b.length - i ∧ EnOk (enc b f i ps e).e ∧ PsOk (enc b f i ps e).ps ∧ (enc b f i ps e).ps.length = 258 ∧ Reach e (enc b f i ps e).e ∧ (enc b f i ps e).e.l ≤ e.l + (b.length - i)
  | 0, i, ps, e, hf, hi, he, hp, hl => by
    have : i = b.length := by omega
    exact ⟨by show 0 = _; omega, he, hp, hl, Reach.refl e, by show e.l ≤ _; omega⟩
  | f + 1, i, ps, e, hf, hi, he, hp, hl => by
    by_cases h : i < b.length
    · cases hm : mark (ahd b i) (b.getD i 0).toNat with
      | none =>
        rw [enc_none h hm]
        obtain ⟨h1, h2, h3, h4, h5, h6⟩ := enc_ok f (i + 1) ps e (by omega) h he hp hl
        refine ⟨?_, h2, h3, h4, h5, by show (enc b f (i + 1) ps e).e.l ≤ _; omega⟩
        show ((b.getD i 0) :: (enc b f (i + 1) ps e).main).length + (enc b f (i + 1) ps e).call.length + (enc b f (i + 1) ps e).jump.length = _
        rw [List.length_cons]
        omega
      | some k =>
        have hk := mark_lt (ahd_lt b i) hm
        have hg := getD_ok hp (show k < ps.length by omega)
        by_cases hlast : i + 1 = b.length
        · rw [enc_last hlast hm]
          obtain ⟨h1, h2, h3, h4, h5, h6⟩ := enc_ok f (i + 1) ps e (by omega) h he hp hl
          refine ⟨?_, h2, h3, h4, h5, by show (enc b f (i + 1) ps e).e.l ≤ _; omega⟩
          show ((b.getD i 0) :: (enc b f (i + 1) ps e).main).length + (enc b f (i + 1) ps e).call.length + (enc b f (i + 1) ps e).jump.length = _
          rw [List.length_cons]
          omega
        · cases ha : apart b i with
          | false =>
            rw [enc_zero (by omega) hm ha]
            have hbl := bit_len e (ps.getD k 0) 0
            obtain ⟨h1, h2, h3, h4, h5, h6⟩ := enc_ok f (i + 1) (ps.set k (upOf (ps.getD k 0) 0)) (e.bit (ps.getD k 0) 0) (by omega) h (bit_ok he hg) (psOk_set hp k (pOk_upOf hg)) (by rw [List.length_set]; exact hl)
            refine ⟨?_, h2, h3, h4, (bit_reach he hg).trans h5, by show (enc b f (i + 1) _ _).e.l ≤ _; omega⟩
            show ((b.getD i 0) :: (enc b f (i + 1) _ _).main).length + (enc b f (i + 1) _ _).call.length + (enc b f (i + 1) _ _).jump.length = _
            rw [List.length_cons]
            omega
          | true =>
            rw [enc_one (by omega) hm ha]
            have h5' := apart_len ha
            have hbl := bit_len e (ps.getD k 0) 1
            obtain ⟨h1, h2, h3, h4, h5, h6⟩ := enc_ok f (i + 5) (ps.set k (upOf (ps.getD k 0) 1)) (e.bit (ps.getD k 0) 1) (by omega) h5' (bit_ok he hg) (psOk_set hp k (pOk_upOf hg)) (by rw [List.length_set]; exact hl)
            unfold E2.puts
            split
            · refine ⟨?_, h2, h3, h4, (bit_reach he hg).trans h5, by show (enc b f (i + 5) _ _).e.l ≤ _; omega⟩
              show ((b.getD i 0) :: (enc b f (i + 5) _ _).main).length + (be4 (plc b i) ++ (enc b f (i + 5) _ _).call).length + (enc b f (i + 5) _ _).jump.length = _
              rw [List.length_cons, List.length_append]
              show _ + (4 + _) + _ = _
              omega
            · refine ⟨?_, h2, h3, h4, (bit_reach he hg).trans h5, by show (enc b f (i + 5) _ _).e.l ≤ _; omega⟩
              show ((b.getD i 0) :: (enc b f (i + 5) _ _).main).length + (enc b f (i + 5) _ _).call.length + (be4 (plc b i) ++ (enc b f (i + 5) _ _).jump).length = _
              rw [List.length_cons, List.length_append]
              show _ + _ + (4 + _) = _
              omega
    · rw [enc_end h]
      exact ⟨by show 0 = _; omega, he, hp, hl, Reach.refl e, by show e.l ≤ _; omega⟩

theorem take4_be {p : Nat} (hp : p < 4294967296) (t : List UInt8) : take4 (be4 p ++ t) = some (p, t) := by
  show some (_, t) = _
  congr 2
  have e0 : (UInt8.ofNat (p / 16777216)).toNat = p / 16777216 := by simp; omega
  have e1 : (UInt8.ofNat (p / 65536)).toNat = p / 65536 % 256 := by simp
  have e2 : (UInt8.ofNat (p / 256)).toNat = p / 256 % 256 := by simp
  have e3 : (UInt8.ofNat p).toNat = p % 256 := by simp
  rw [e0, e1, e2, e3]
  omega
theorem tgt_plc {i : Nat} (h : i + 5 ≤ b.length) (hb : b.length ≤ 1000000000) : tgt (plc b i) (i + 1) = le4 b (i + 1) := by
  unfold tgt wr32 plc le4
  have h0 := (b.getD (i + 1) 0).toNat_lt
  have h1 := (b.getD (i + 1 + 1) 0).toNat_lt
  have h2 := (b.getD (i + 1 + 2) 0).toNat_lt
  have h3 := (b.getD (i + 1 + 3) 0).toNat_lt
  omega
theorem leB_le4 (i : Nat) : leB (le4 b i) 4 = [b.getD i 0, b.getD (i + 1) 0, b.getD (i + 2) 0, b.getD (i + 3) 0] := by
  unfold le4
  have h0 := (b.getD i 0).toNat_lt
  have h1 := (b.getD (i + 1) 0).toNat_lt
  have h2 := (b.getD (i + 2) 0).toNat_lt
  have h3 := (b.getD (i + 3) 0).toNat_lt
  have k : ∀ (x : UInt8) (n : Nat), n = x.toNat → UInt8.ofNat n = x := fun x n h => by rw [h]; simp
  show [UInt8.ofNat _, UInt8.ofNat _, UInt8.ofNat _, UInt8.ofNat _] = _
  rw [k (b.getD i 0) _ (by omega), k (b.getD (i + 1) 0) _ (by omega), k (b.getD (i + 2) 0) _ (by omega), k (b.getD (i + 3) 0) _ (by omega)]
theorem lastB_le4 (a i : Nat) : lastB a (le4 b i) 4 = (b.getD (i + 3) 0).toNat := by
  unfold le4
  have h0 := (b.getD i 0).toNat_lt
  have h1 := (b.getD (i + 1) 0).toNat_lt
  have h2 := (b.getD (i + 2) 0).toNat_lt
  have h3 := (b.getD (i + 3) 0).toNat_lt
  show _ / 256 / 256 / 256 % 256 = _
  omega
theorem take_succ_getD {i : Nat} (h : i < b.length) : b.take i ++ [b.getD i 0] = b.take (i + 1) := by
  rw [List.take_succ_eq_append_getElem h]
  simp [List.getD, h]
theorem take_five {i : Nat} (h : i + 5 ≤ b.length) : b.take (i + 1) ++ [b.getD (i + 1) 0, b.getD (i + 1 + 1) 0, b.getD (i + 1 + 2) 0, b.getD (i + 1 + 3) 0] = b.take (i + 5) := by
  rw [← take_succ_getD (b := b) (i := i + 4) (by omega), ← take_succ_getD (b := b) (i := i + 3) (by omega), ← take_succ_getD (b := b) (i := i + 2) (by omega), ← take_succ_getD (b := b) (i := i + 1) (by omega)]
  simp

/-- What is coded is decoded as it was. -/
theorem enc_back {bs : List UInt8} {f0 : En} (hE : Ends bs f0) (hb : b.length ≤ 1000000000) : ∀ (f i : Nat) (ps : List Nat) (e : En), b.length - i ≤ f → i ≤ b.length → EnOk e → PsOk ps → ps.length = 258 → (enc b f i ps e).e = f0 →
    goR b.length (enc b f i ps e).main ⟨(enc b f i ps e).call, (enc b f i ps e).jump, decAt bs [] e, ps⟩ (b.take i) (ahd b i) = some b := by
  have done : ∀ (i : Nat) (ps : List Nat) (e : En), i = b.length → e = f0 → goR b.length [] ⟨[], [], decAt bs [] e, ps⟩ (b.take i) (ahd b i) = some b := by
    intro i ps e hi he
    subst hi he
    unfold goR
    rw [ends_dec hE]
    have h1 : b.length ≤ (b.take b.length).length := by simp
    rw [if_pos h1, if_pos (show K2.ends _ = true from rfl), List.take_length]
  intro f
  induction f with
  | zero =>
    intro i ps e hf hi he hp hl hend
    exact done i ps e (by omega) hend
  | succ f ih =>
    intro i ps e hf hi he hp hl hend
    by_cases h : i < b.length
    · have hlen : (b.take i).length = i := by rw [List.length_take]; omega
      have hgo : ∀ (m : List UInt8) (k : K2), goR b.length (b.getD i 0 :: m) k (b.take i) (ahd b i) = match aftB b.length k (b.take (i + 1)) (ahd b i) (b.getD i 0).toNat with
          | none => none
          | some (k', o', a') => goR b.length m k' o' a' := fun m k => by
        conv => lhs; unfold goR
        rw [if_neg (by omega), take_succ_getD h]
        rfl
      have hah : ahd b (i + 1) = (b.getD i 0).toNat := by unfold ahd; rw [if_neg (by omega), Nat.add_sub_cancel]
      have hln1 : (b.take (i + 1)).length = i + 1 := by rw [List.length_take]; omega
      cases hm : mark (ahd b i) (b.getD i 0).toNat with
      | none =>
        rw [enc_none h hm] at hend ⊢
        have := ih (i + 1) ps e (by omega) h he hp hl hend
        refine (hgo _ _).trans ?_
        unfold aftB
        rw [hm]
        rw [hah] at this
        exact this
      | some k =>
        have hk := mark_lt (ahd_lt b i) hm
        have hg := getD_ok hp (show k < ps.length by omega)
        by_cases hlast : i + 1 = b.length
        · rw [enc_last hlast hm] at hend ⊢
          have := ih (i + 1) ps e (by omega) h he hp hl hend
          refine (hgo _ _).trans ?_
          unfold aftB
          rw [hm]
          simp only []
          rw [if_pos (by rw [hln1]; exact hlast)]
          rw [hah] at this
          exact this
        · cases ha : apart b i with
          | false =>
            rw [enc_zero (by omega) hm ha] at hend ⊢
            have hr := (enc_ok (b := b) f (i + 1) (ps.set k (upOf (ps.getD k 0) 0)) (e.bit (ps.getD k 0) 0) (by omega) h (bit_ok he hg) (psOk_set hp k (pOk_upOf hg)) (by rw [List.length_set]; exact hl)).2.2.2.2.1
            have hd := bit_dec (more := []) hE he hg (show 0 ≤ 1 by decide) (hend ▸ hr)
            have := ih (i + 1) (ps.set k (upOf (ps.getD k 0) 0)) (e.bit (ps.getD k 0) 0) (by omega) h (bit_ok he hg) (psOk_set hp k (pOk_upOf hg)) (by rw [List.length_set]; exact hl) hend
            refine (hgo _ _).trans ?_
            unfold aftB
            rw [hm]
            simp only []
            rw [if_neg (by rw [hln1]; exact hlast)]
            unfold bitB
            simp only [hd]
            rw [hah] at this
            exact this
          | true =>
            rw [enc_one (by omega) hm ha] at hend ⊢
            have h5 := apart_len ha
            have hend' : (enc b f (i + 5) (ps.set k (upOf (ps.getD k 0) 1)) (e.bit (ps.getD k 0) 1)).e = f0 := by
              rw [← hend]
              unfold E2.puts
              split <;> rfl
            have hr := (enc_ok (b := b) f (i + 5) (ps.set k (upOf (ps.getD k 0) 1)) (e.bit (ps.getD k 0) 1) (by omega) h5 (bit_ok he hg) (psOk_set hp k (pOk_upOf hg)) (by rw [List.length_set]; exact hl)).2.2.2.2.1
            have hd := bit_dec (more := []) hE he hg (show 1 ≤ 1 by decide) (hend' ▸ hr)
            have := ih (i + 5) (ps.set k (upOf (ps.getD k 0) 1)) (e.bit (ps.getD k 0) 1) (by omega) h5 (bit_ok he hg) (psOk_set hp k (pOk_upOf hg)) (by rw [List.length_set]; exact hl) hend'
            have hpl : plc b i < 4294967296 := Nat.mod_lt _ (by decide)
            have hah5 : ahd b (i + 5) = (b.getD (i + 1 + 3) 0).toNat := by unfold ahd; rw [if_neg (by omega)]; rfl
            obtain ⟨dd, hdd⟩ : ∃ dd, decAt bs [] (e.bit (ps.getD k 0) 1) = some dd := ⟨_, rfl⟩
            rw [hdd] at hd this
            unfold E2.puts
            split
            · rename_i h256
              refine (hgo _ _).trans ?_
              unfold aftB
              rw [hm]
              simp only []
              rw [if_neg (by rw [hln1]; exact hlast)]
              unfold bitB
              simp only [E2.cons, hd]
              rw [if_neg (by rw [hln1]; omega), if_pos h256, take4_be hpl]
              simp only []
              rw [hln1, tgt_plc h5 hb, leB_le4, lastB_le4, take_five h5, ← hah5]
              exact this
            · rename_i h256
              refine (hgo _ _).trans ?_
              unfold aftB
              rw [hm]
              simp only []
              rw [if_neg (by rw [hln1]; exact hlast)]
              unfold bitB
              simp only [E2.cons, hd]
              rw [if_neg (by rw [hln1]; omega), if_neg h256, take4_be hpl]
              simp only []
              rw [hln1, tgt_plc h5 hb, leB_le4, lastB_le4, take_five h5, ← hah5]
              exact this
    · rw [enc_end h] at hend ⊢
      exact done i ps e (by omega) hend
end
end Go.Proofs.Ytdnkoeafnnohnaa

/-
  What is coded is decoded, and its numbers.
-/
namespace Go.Proofs.Ytdnkoeafnnohnaa

/-- four streams that hold what is coded -/
def Holds (b : List UInt8) (l : Nat → List UInt8) : Prop :=
  l 0 = (enc b b.length 0 (List.replicate 258 1024) En.new).main ∧ l 1 = (enc b b.length 0 (List.replicate 258 1024) En.new).call ∧ l 2 = (enc b b.length 0 (List.replicate 258 1024) En.new).jump ∧
    be (l 3) = (enc b b.length 0 (List.replicate 258 1024) En.new).e.n ∧ (l 3).length = (enc b b.length 0 (List.replicate 258 1024) En.new).e.l
/-- what is decoded, by the size -/
def ansD (l : Nat → List UInt8) (size : Nat) : Option (List UInt8) := goR size (l 0) ⟨l 1, l 2, started (l 3), List.replicate 258 1024⟩ [] 0

theorem holds_len {b : List UInt8} {l : Nat → List UInt8} (h : Holds b l) : (l 0).length + (l 1).length + (l 2).length = b.length := by
  obtain ⟨h0, h1, h2, _, _⟩ := h
  rw [h0, h1, h2]
  have := (enc_ok (b := b) b.length 0 (List.replicate 258 1024) En.new (by omega) (Nat.zero_le _) enOk_new (fun p hp => by rw [List.eq_of_mem_replicate hp]; exact pOk_fresh) (List.length_replicate ..)).1
  omega
theorem holds_back {b : List UInt8} {l : Nat → List UInt8} (h : Holds b l) (hb : b.length ≤ 16384) : ansD l b.length = some b := by
  obtain ⟨h0, h1, h2, h3, h4⟩ := h
  obtain ⟨_, k2, _, _, k5, _⟩ := enc_ok (b := b) b.length 0 (List.replicate 258 1024) En.new (by omega) (Nat.zero_le _) enOk_new (fun p hp => by rw [List.eq_of_mem_replicate hp]; exact pOk_fresh) (List.length_replicate ..)
  have hE : Ends (l 3) (enc b b.length 0 (List.replicate 258 1024) En.new).e := ends_of k2 h3 h4
  have := enc_back hE (by omega) b.length 0 (List.replicate 258 1024) En.new (by omega) (Nat.zero_le _) enOk_new (fun p hp => by rw [List.eq_of_mem_replicate hp]; exact pOk_fresh) (List.length_replicate ..) rfl
  have hs := started_dec (more := []) hE k5
  rw [List.append_nil] at hs
  unfold ansD
  rw [h0, h1, h2, hs]
  exact this
theorem holds_other {b : List UInt8} {l : Nat → List UInt8} (h : Holds b l) {size : Nat} (hs : size ≠ b.length) : ansD l size = none := by
  cases ho : ansD l size with
  | none => rfl
  | some o =>
    have h1 := goR_len ho
    have h2 := holds_len h
    obtain ⟨e1, e2, e3⟩ := h1
    have e1' : o.length = (l 0).length + (l 1).length + (l 2).length := by rw [e1]; show 0 + _ + (l 1).length + (l 2).length = _; omega
    have := e3 (Nat.zero_le _)
    omega
theorem holds_awk {l : Nat → List UInt8} (h : Holds [232, 251, 255, 255, 255] l) : l 0 = [232] ∧ l 1 = [0, 0, 0, 0] ∧ (l 3).length = 5 := by
  obtain ⟨h0, h1, _, _, h4⟩ := h
  refine ⟨?_, ?_, ?_⟩
  · rw [h0]; decide +kernel
  · rw [h1]; decide +kernel
  · rw [h4]; decide +kernel
/-- no instructions -/
theorem enc_plain {b : List UInt8} (h : ∀ i, i < b.length → b.getD i 0 ≠ 232 ∧ b.getD i 0 ≠ 233 ∧ b.getD i 0 ≠ 15) :
    ∀ (f i : Nat) (ps : List Nat) (e : En), b.length - i ≤ f → i ≤ b.length → enc b f i ps e = ⟨b.drop i, [], [], ps, e⟩
  | 0, i, ps, e, hf, hi => by
    have : i = b.length := by omega
    subst this
    unfold enc
    rw [List.drop_length]
  | f + 1, i, ps, e, hf, hi => by
    by_cases hlt : i < b.length
    · have hm : mark (ahd b i) (b.getD i 0).toNat = none := by
        obtain ⟨g1, g2, _⟩ := h i hlt
        have z : ∀ x y : UInt8, x ≠ y → x.toNat ≠ y.toNat := fun x y hx hy => hx (UInt8.toNat_inj.1 hy)
        have a15 : ahd b i ≠ 15 := by
          unfold ahd
          split
          · decide
          · exact z _ 15 (h (i - 1) (by omega)).2.2
        unfold mark
        rw [if_neg (show ¬ (b.getD i 0).toNat = 232 from z _ 232 g1), if_neg (show ¬ (b.getD i 0).toNat = 233 from z _ 233 g2), if_neg (fun hh => a15 hh.1)]
      unfold enc
      rw [if_pos hlt, hm]
      show (enc b f (i + 1) ps e).cons (b.getD i 0) = _
      rw [enc_plain h f (i + 1) ps e (by omega) (by omega)]
      unfold E2.cons
      have hd : b.drop i = b.getD i 0 :: b.drop (i + 1) := by
        rw [List.drop_eq_getElem_cons hlt]; simp [List.getD, hlt]
      rw [hd]
    · have : i = b.length := by omega
      subst this
      rw [enc_end (Nat.lt_irrefl _), List.drop_length]
theorem holds_none {b : List UInt8} {l : Nat → List UInt8} (hh : Holds b l) (h : ∀ i, i < b.length → b.getD i 0 ≠ 232 ∧ b.getD i 0 ≠ 233 ∧ b.getD i 0 ≠ 15) :
    l 0 = b ∧ l 1 = [] ∧ l 2 = [] ∧ l 3 = [0, 0, 0, 0, 0] := by
  obtain ⟨h0, h1, h2, h3, h4⟩ := hh
  rw [enc_plain h b.length 0 _ _ (by omega) (Nat.zero_le _)] at h0 h1 h2 h3 h4
  refine ⟨h0, h1, h2, ?_⟩
  have h3 : be (l 3) = 0 := h3
  have h4 : (l 3).length = 5 := h4
  revert h3 h4
  generalize l 3 = bs
  intro h3 h4
  match bs, h4 with
  | [a, b, c, d, f], _ =>
    have : be [a, b, c, d, f] = (((a.toNat * 256 + b.toNat) * 256 + c.toNat) * 256 + d.toNat) * 256 + f.toNat := by simp [be]
    rw [this] at h3
    have z : ∀ x : UInt8, x.toNat = 0 → x = 0 := fun x hx => UInt8.toNat_inj.1 hx
    rw [z a (by omega), z b (by omega), z c (by omega), z d (by omega), z f (by omega)]
end Go.Proofs.Ytdnkoeafnnohnaa
