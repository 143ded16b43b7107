/-
  LwNx, LwNxt, LwBegin: put together.
-/
import Derived.Test.YtjgdjobhhdhfjaaFa20
import Derived.Test.YtjgdjobhhdhfjaaFa22
import Derived.Test.YtjgdjobhhdhfjaaFa15
import Derived.Lib.SliceRun
set_option linter.unusedVariables false
set_option linter.unusedSimpArgs false
/-
  The program's decoder of LZMA: the next byte, in the document's packets.
-/
namespace Go.Proofs.Ytjgdjobhhdhfjaa
open Go.RowKit

def Lzs.cut (z : Lzs) (n : Nat) : Lzs := { z with out := z.out.take n }
theorem cut_all (z : Lzs) : z.cut z.out.length = z := by unfold Lzs.cut; rw [List.take_length]
theorem has_push {z : Lzs} {d : Nat} {b : UInt8} (h : z.has d = true) : (z.push b).has d = true := by
  unfold Lzs.has at *
  have hl : (z.push b).out.length = z.out.length + 1 := by show (z.out ++ [b]).length = _; simp
  have hd : (z.push b).dict = z.dict := rfl
  rw [hl, hd]
  have := of_decide_eq_true h
  exact decide_eq_true (by omega)
theorem take_snoc8 (l : List UInt8) (n : Nat) (h : n < l.length) : l.take (n + 1) = l.take n ++ [l.getD n 0] := by
  rw [List.take_succ_eq_append_getElem h]
  simp [List.getD, h]
theorem cut_next {z : Lzs} {n : Nat} {b : UInt8} (h : n < z.out.length) (hb : b = z.out.getD n 0) : (z.cut n).push b = z.cut (n + 1) := by
  unfold Lzs.cut Lzs.push
  dsimp only
  rw [take_snoc8 _ _ h, hb]

/-- what is copied is there, byte by byte -/
theorem copy_cut : ∀ (f m : Nat) {z : Lzs}, z.has z.r0 = true →
    (copyG f m z).2 = { z with out := (copyG f m z).2.out } ∧ (copyG f m z).2.out.length = z.out.length + f ∧ (copyG f m z).2.out.take z.out.length = z.out ∧
    ∀ j, z.out.length ≤ j → j < z.out.length + f → ((copyG f m z).2.cut j).has (copyG f m z).2.r0 = true ∧ ((copyG f m z).2.cut j).back (copyG f m z).2.r0 = (copyG f m z).2.out.getD j 0
  | 0, m, z, h => ⟨rfl, rfl, List.take_length, fun j h1 h2 => by omega⟩
  | f + 1, m, z, h => by
    rw [copyG_go h]
    obtain ⟨b, hb⟩ : ∃ b, b = z.back z.r0 := ⟨_, rfl⟩
    rw [← hb]
    have hp : (z.push b).has (z.push b).r0 = true := has_push h
    obtain ⟨h1, h2, h3, h4⟩ := copy_cut f (m + 1) hp
    have hl : (z.push b).out.length = z.out.length + 1 := by show (z.out ++ [b]).length = _; simp
    rw [hl] at h2 h3 h4
    have ho : (z.push b).out = z.out ++ [b] := rfl
    rw [ho] at h3
    obtain ⟨q, hq⟩ : ∃ q, q = (copyG f (m + 1) (z.push b)).2 := ⟨_, rfl⟩
    rw [← hq] at h1 h2 h3 h4 ⊢
    have e1 : q = { z with out := q.out } := by
      have : ({ z.push b with out := q.out } : Lzs) = { z with out := q.out } := rfl
      rw [← this]
      exact h1
    have e3 : q.out.take z.out.length = z.out := by
      have h := congrArg (List.take z.out.length) h3
      rw [List.take_take, Nat.min_eq_left (by omega), List.take_left'] at h
      · exact h
      · rfl
    refine ⟨e1, by omega, e3, fun j j1 j2 => ?_⟩
    by_cases hj : j = z.out.length
    · subst hj
      have ec : q.cut z.out.length = z := by
        unfold Lzs.cut
        rw [e3, e1]
      have er : q.r0 = z.r0 := by rw [e1]
      rw [ec, er]
      refine ⟨h, ?_⟩
      rw [← hb]
      have h := take_snoc8 q.out z.out.length (by omega)
      rw [h3, e3] at h
      have h := List.append_cancel_left h
      injection h
    · exact h4 j (by omega) (by omega)

/-- a decoder that is dead tells no packet -/
theorem none_simu : Simu decM okD decM (fun _ _ => False) (fun _ => True) (fun d => d = none) where
  okm := decM_ok
  bit _ _ _ h _ := h.elim
  str _ _ _ h _ := h.elim
  fbit _ _ _ _ := trivial
  fstr _ _ := trivial
  dbit {y p w} h := by show (bitD y p).2.2 = none; rw [h]; rfl
  dstr {y n v} h := by show (straightD n y).2 = none; rw [h, straightD_none]
  same h := h.elim
theorem packP_none {z : Lzs} {t : Pm Dc} {p : Pk} (h : t.x = none) : (packP decM z t p).2.2.x = none :=
  packK_dead none_simu (kindP_dead (M2 := decM) (Dead := fun d => d = none) none_simu.dbit h)

/-- Of zf all is decided, n bytes are told. -/
structure Nx (K : Kon) (w : World) (Gw : Nat → Prop) (zf : Lzs) (tf : Pm Dc) (n : Nat) : Prop where
  lw : Lw K w Gw (zf.cut n) tf (zf.out.length - n)
  le : n ≤ zf.out.length
  far : zf.out.length ≤ n + 273
  near : ZNear zf (1847 + K.nl) zf.out.length
  live : n < zf.out.length → tf.x ≠ none
  bad : zf.bad = false
  ended : zf.ended = false
  tell : ∀ j, n ≤ j → j < zf.out.length → (zf.cut j).has zf.r0 = true ∧ (zf.cut j).back zf.r0 = zf.out.getD j 0

def stopP (r : Nat × Lzs × Pm Dc) : Prop := r.2.2.x = none ∨ r.2.1.bad = true ∨ r.2.1.ended = true
def NextPost (K : Kon) (w : World) (Gw : Nat → Prop) (zf : Lzs) (tf : Pm Dc) (n : Nat) (e : Ending) (w' : World) : Prop :=
  (∃ zf' tf' Gw', e = .returned (.tuple #[.int .u8 ((zf'.out.getD n 0).toNat : Int), .bool true]) ∧ Nx K w' Gw' zf' tf' (n + 1) ∧ zf'.dict = zf.dict ∧ zf'.out.take n = zf.out.take n ∧
    ((n < zf.out.length ∧ zf' = zf ∧ tf' = tf) ∨ (n = zf.out.length ∧ ¬ stopP (packP decM zf tf pk0) ∧ zf' = (packP decM zf tf pk0).2.1 ∧ tf' = (packP decM zf tf pk0).2.2)) ∧
    (∀ i, Gw' i → Gw i ∨ w.heap.size ≤ i) ∧ Only (K.all Gw) w w') ∨
  (e = .returned (.tuple #[.int .u8 0, .bool false]) ∧ n = zf.out.length ∧ stopP (packP decM zf tf pk0) ∧ ∃ z1 t1 l1 Gw', Lw K w' Gw' z1 t1 l1 ∧ (∀ i, Gw' i → Gw i ∨ w.heap.size ≤ i) ∧ Only (K.all Gw) w w')

/-- a packet, by its first bit -/
theorem pk_first {z : Lzs} {t : Pm Dc} (hb : z.bad = false) :
    ((bitP decM t (16 * z.st + z.out.length % 2 ^ z.pb) 0).1 = 0 → packP decM z t pk0 = packL decM (litP decM z (bitP decM t (16 * z.st + z.out.length % 2 ^ z.pb) 0).2 0) z) ∧
    ((bitP decM t (16 * z.st + z.out.length % 2 ^ z.pb) 0).1 ≠ 0 → packP decM z t pk0 = packK decM (kd2 decM (bitP decM (bitP decM t (16 * z.st + z.out.length % 2 ^ z.pb) 0).2 (192 + z.st) 0) (decide (z.out.length = 0)) z.st (z.out.length % 2 ^ z.pb) 0) z (z.out.length % 2 ^ z.pb) pk0) := by
  have hdef : packP decM z t pk0 = packK decM (kd1 decM (bitP decM t (16 * z.st + z.out.length % 2 ^ z.pb) 0) (decide (z.out.length = 0)) z.st (z.out.length % 2 ^ z.pb) 0) z (z.out.length % 2 ^ z.pb) pk0 := rfl
  rw [hdef]
  generalize bitP decM t (16 * z.st + z.out.length % 2 ^ z.pb) 0 = B at *
  constructor
  · intro h0
    have hk : kd1 decM B (decide (z.out.length = 0)) z.st (z.out.length % 2 ^ z.pb) 0 = (0, false, B.2) := by unfold kd1; rw [if_pos h0]
    rw [hk]
    unfold packK
    rw [if_pos rfl]
    have : ({ z with bad := z.bad || false } : Lzs) = z := by cases z; simp at hb; simp [hb]
    show packL decM (litP decM { z with bad := z.bad || false } B.2 0) { z with bad := z.bad || false } = _
    rw [this]
  · intro h0
    have hk : kd1 decM B (decide (z.out.length = 0)) z.st (z.out.length % 2 ^ z.pb) 0 = kd2 decM (bitP decM B.2 (192 + z.st) 0) (decide (z.out.length = 0)) z.st (z.out.length % 2 ^ z.pb) 0 := by unfold kd1; rw [if_neg h0]; rfl
    rw [hk]

section
variable {K : Kon} {w w' : World} {Gw Gw' : Nat → Prop} {zf : Lzs} {tf : Pm Dc} {n : Nat}

/-- a byte of a packet is told -/
theorem nx_copied (h : Nx K w Gw zf tf n) (hn : n < zf.out.length) {x : Ending}
    (hp : PutPost K w Gw (.tuple #[.int .u8 (((zf.cut n).back zf.r0).toNat : Int), .bool true]) ((zf.cut n).push ((zf.cut n).back zf.r0)) tf (zf.out.length - n - 1) x w') : NextPost K w Gw zf tf n x w' := by
  obtain ⟨rfl, G1, hl, hg, ho⟩ := hp
  obtain ⟨t1, t2⟩ := h.tell n (Nat.le_refl _) hn
  rw [t2] at hl ⊢
  rw [cut_next hn rfl] at hl
  refine .inl ⟨zf, tf, G1, rfl, ⟨?_, hn, by have := h.far; omega, h.near, fun h2 => h.live (by omega), h.bad, h.ended, fun j j1 j2 => h.tell j (by omega) j2⟩, rfl, rfl, .inl ⟨hn, rfl, rfl⟩, hg, ho⟩
  rw [show zf.out.length - (n + 1) = zf.out.length - n - 1 by omega]
  exact hl

theorem nx_lit {w1 : World} {B : Nat × Pm Dc} {x : Ending} (h : Nx K w Gw zf tf zf.out.length) (hB : B = bitP decM tf (16 * zf.st + zf.out.length % 2 ^ zf.pb) 0) (h0 : B.1 = 0) (hO1 : Only K.own w w1)
    (hp : LitEnd K w1 Gw zf (litP decM zf B.2 0) 0 x w') : NextPost K w Gw zf tf zf.out.length x w' := by
  have hpk := (pk_first (t := tf) h.bad).1
  rw [← hB] at hpk
  have hpk := hpk h0
  obtain ⟨r, hr⟩ : ∃ r, r = litP decM zf B.2 0 := ⟨_, rfl⟩
  rw [← hr] at hp hpk
  rcases hp with ⟨hd, rfl, hz, ho⟩ | ⟨hd, rfl, G1, hl, hg, ho⟩
  · refine .inr ⟨rfl, rfl, ?_, _, _, _, Gw, hz, fun i hi => .inl hi, (hO1.trans ho).mono fun i hi => .inl hi⟩
    rw [hpk]
    unfold packL
    rw [if_pos (dead_bad hd)]
    exact .inl hd
  · have hpk2 : packP decM zf tf pk0 = (1, ({ zf with st := litSt zf.st } : Lzs).push (UInt8.ofNat r.1), r.2) := by
      rw [hpk]
      unfold packL
      rw [if_neg (by rw [live_bad hd]; simp)]
    have hlen : (({ zf with st := litSt zf.st } : Lzs).push (UInt8.ofNat r.1)).out.length = zf.out.length + 1 := by show (zf.out ++ [_]).length = _; simp
    have hget : (({ zf with st := litSt zf.st } : Lzs).push (UInt8.ofNat r.1)).out.getD zf.out.length 0 = UInt8.ofNat r.1 := by
      show (zf.out ++ [_]).getD zf.out.length 0 = _
      simp [List.getD]
    obtain ⟨q, hq⟩ : ∃ q, q = ({ zf with st := litSt zf.st } : Lzs).push (UInt8.ofNat r.1) := ⟨_, rfl⟩
    have hz := h.near
    have hnear : ZNear q (1847 + K.nl) q.out.length := by
      rw [hq]
      exact ⟨hz.lc, hz.lp, hz.pb, hz.dict, Nat.le_refl _, litSt_le hz.st, hz.r0, hz.r1, hz.r2, hz.r3, hz.len⟩
    have hqb : q.bad = false := by rw [hq]; exact h.bad
    have hqe : q.ended = false := by rw [hq]; exact h.ended
    have hqd : q.dict = zf.dict := by rw [hq]; rfl
    have hqt : q.out.take zf.out.length = zf.out.take zf.out.length := by
      rw [hq]
      show (zf.out ++ [_]).take zf.out.length = _
      rw [List.take_left', List.take_length]
      rfl
    rw [← hq] at hpk2 hlen hget hl
    refine .inl ⟨q, r.2, G1, by rw [hget], ⟨?_, by omega, by omega, hnear, fun h2 => by omega, hqb, hqe, fun j j1 j2 => by omega⟩, hqd, hqt, .inr ⟨rfl, ?_, by rw [hpk2], by rw [hpk2]⟩, fun i hi => ?_, (hO1.mono fun i hi => .inl hi).trans ho⟩
    · have e1 := cut_all q
      rw [hlen] at e1
      rw [e1, hlen, Nat.sub_self]
      exact hl
    · rw [hpk2]
      rintro (h1 | h1 | h1)
      · exact hd h1
      · have h1 : q.bad = true := h1
        rw [hqb] at h1
        cases h1
      · have h1 : q.ended = true := h1
        rw [hqe] at h1
        cases h1
    · rcases hg i hi with h1 | h1
      · exact .inl h1
      · exact .inr (Nat.le_trans hO1.size h1)

/-- a packet that copies begins -/
theorem nx_begin {w1 w2 : World} {z1 : Lzs} {t1 : Pm Dc} {l : Nat} {x : Ending} (hO1 : Only K.own w w1) (ho1 : z1.out = zf.out) (hd1 : z1.dict = zf.dict) (hz1 : ZNear z1 (1847 + K.nl) zf.out.length)
    (hd : t1.x ≠ none) (hb : z1.bad = false) (he : z1.ended = false) (hh : z1.has z1.r0 = true) (h2 : l + 1 ≤ 273) (hr : packP decM zf tf pk0 = ((copyG (l + 1) 0 z1).1, (copyG (l + 1) 0 z1).2, t1))
    (hp : PutPost K w1 Gw (.tuple #[.int .u8 ((z1.back z1.r0).toNat : Int), .bool true]) (z1.push (z1.back z1.r0)) t1 l x w2) : NextPost K w Gw zf tf zf.out.length x w2 := by
  obtain ⟨rfl, G1, hl, hg, ho⟩ := hp
  obtain ⟨q1, q2, q3, q4⟩ := copy_cut (l + 1) 0 hh
  obtain ⟨q, hq⟩ : ∃ q, q = (copyG (l + 1) 0 z1).2 := ⟨_, rfl⟩
  rw [← hq] at q1 q2 q3 q4 hr
  rw [ho1] at q2 q3 q4
  have e0 : q.cut zf.out.length = z1 := by
    unfold Lzs.cut
    rw [q3, q1, ← ho1]
  have er : q.r0 = z1.r0 := by rw [q1]
  obtain ⟨t2, t3⟩ := q4 zf.out.length (Nat.le_refl _) (by omega)
  rw [e0, er] at t3
  rw [t3] at hl ⊢
  rw [← e0, cut_next (by omega) rfl] at hl
  refine .inl ⟨q, t1, G1, rfl, ⟨?_, by omega, by omega, ?_, fun _ => hd, ?_, ?_, fun j j1 j2 => q4 j (by omega) (by omega)⟩, ?_, ?_, .inr ⟨rfl, ?_, by rw [hr], by rw [hr]⟩, fun i hi => ?_, (hO1.mono fun i hi => .inl hi).trans ho⟩
  · rw [show q.out.length - (zf.out.length + 1) = l by omega]
    exact hl
  · rw [q1]
    exact ⟨hz1.lc, hz1.lp, hz1.pb, hz1.dict, Nat.le_refl _, hz1.st, hz1.r0, hz1.r1, hz1.r2, hz1.r3, hz1.len⟩
  · rw [q1]; exact hb
  · rw [q1]; exact he
  · rw [q1]; exact hd1
  · rw [q3, List.take_length]
  · rw [hr]
    rintro (h1 | h1 | h1)
    · exact hd h1
    · rw [show ((copyG (l + 1) 0 z1).1, q, t1).2.1 = q from rfl, q1] at h1
      have h1 : z1.bad = true := h1
      rw [hb] at h1
      cases h1
    · rw [show ((copyG (l + 1) 0 z1).1, q, t1).2.1 = q from rfl, q1] at h1
      have h1 : z1.ended = true := h1
      rw [he] at h1
      cases h1
  · rcases hg i hi with h1 | h1
    · exact .inl h1
    · exact .inr (Nat.le_trans hO1.size h1)
end
end Go.Proofs.Ytjgdjobhhdhfjaa

/-
  The program's decoder of LZMA: the next byte, walked.
-/
namespace Go.Proofs.Ytjgdjobhhdhfjaa
open Go.RowKit

section
variable {K : Kon} {w w' : World} {Gw Gw' : Nat → Prop} {zf : Lzs} {tf : Pm Dc} {n : Nat}

set_option maxRecDepth 100000 in
set_option maxHeartbeats 8000000 in
theorem lnext_any (h : Nx K w Gw zf tf n) (hn : n ≤ 800000) (hf : Fit K (zf.cut n)) :
    Calls Try.prog 14 #[.pointer (some ⟨K.g, 0, none⟩)] w (NextPost K w Gw zf tf n) := by
  have HX := Lib.hid h
  have HF := Lib.hid hf
  have HN := Lib.hid hn
  have KM := lmay_any h.lw
  have xe := h.lw.f.ended
  have xl := h.lw.f.left
  have hb : (zf.cut n).bad = false := h.bad
  have he : (zf.cut n).ended = false := h.ended
  rw [hb] at KM
  rw [he] at xe
  by_cases hlt : n < zf.out.length
  · rw [live_bad (h.live hlt)] at KM
    have KM := Lib.hid KM
    obtain ⟨l, hl⟩ : ∃ l, zf.out.length - n = l + 1 := ⟨zf.out.length - n - 1, by omega⟩
    have hw := h.lw
    rw [hl] at hw xl
    have hfar := h.far
    have KC := Lib.hid (lcopied_any hw hf (h.tell n (Nat.le_refl _) hlt).1 h.near.r0 (by omega) (by show (zf.out.take n).length ≤ _; rw [List.length_take]; omega))
    have q0 : (((l + 1 : Nat) : Int) == 0) = false := by simp; omega
    obtain ⟨l1, hl1⟩ : ∃ l1, l1 = l + 1 := ⟨_, rfl⟩
    rw [← hl1] at q0 xl
    have HL := Lib.hid (And.intro hlt hl)
    clear hl hl1 hw hfar hlt h hf hn hb he
    go_enter Try.func14, Try.ntmps14
    go_wp2_with fail
    refine KM.out.mono ?_
    rintro e w1 ⟨rfl, rfl⟩
    clear KM
    go_wp2_with fail
    refine KC.out.mono ?_
    rintro e w2 hp
    have HP := Lib.hid hp
    obtain ⟨rfl, _⟩ := hp
    clear KC
    go_wp2_with fail
    go_ret2
    refine nx_copied HX.out HL.out.1 ?_
    rw [show zf.out.length - n - 1 = l by have := HL.out.2; omega]
    exact HP.out
  · obtain rfl : n = zf.out.length := by have := h.le; omega
    rw [cut_all] at hf hb he
    have hw := h.lw
    rw [cut_all, Nat.sub_self] at hw
    rw [Nat.sub_self] at xl
    by_cases hd : tf.x = none
    · rw [dead_bad hd] at KM
      have KM := Lib.hid KM
      have HD := Lib.hid hd
      have HW := Lib.hid hw
      clear hlt h hf hn hb he hd hw
      go_enter Try.func14, Try.ntmps14
      go_wp2_with fail
      refine KM.out.mono ?_
      rintro e w1 ⟨rfl, rfl⟩
      clear KM
      go_wp2_with fail
      go_ret2
      exact .inr ⟨rfl, rfl, .inl (packP_none HD.out), _, _, _, Gw, HW.out, fun i hi => .inl hi, Only.refl _ _⟩
    · rw [live_bad hd] at KM
      have KM := Lib.hid KM
      have hz := h.near
      have KS := Lib.hid (lstart_any hw hz.st hz.pb (by omega))
      have hpk := pk_first (t := tf) hb
      obtain ⟨s, hs⟩ : ∃ s, s = zf.out.length % 2 ^ zf.pb := ⟨_, rfl⟩
      rw [← hs] at KS hpk
      obtain ⟨B, hB⟩ : ∃ B, B = bitP decM tf (16 * zf.st + s) 0 := ⟨_, rfl⟩
      rw [← hB] at KS hpk
      by_cases h0 : B.1 = 0
      · rw [decide_eq_true h0] at KS
        have HB := Lib.hid (And.intro hB (And.intro h0 hs))
        have HZ := Lib.hid hz
        clear hlt h hb he hd hw hz hpk hs hB h0 hf hn
        go_enter Try.func14, Try.ntmps14
        go_wp2_with fail
        refine KM.out.mono ?_
        rintro e w1 ⟨rfl, rfl⟩
        clear KM
        go_wp2_with fail
        refine KS.out.mono ?_
        rintro e w1 ⟨rfl, hz1, ho1⟩
        have KL := Lib.hid (llit_any hz1 HZ.out (by have := HN.out; omega) (by have := HF.out; rw [cut_all] at this; exact this))
        have HO1 := Lib.hid ho1
        clear hz1 ho1 KS
        go_wp2_with fail
        refine KL.out.mono ?_
        rintro e w2 hp
        have HP := Lib.hid hp
        clear KL
        have hret : e = .returned (.tuple #[.int .u8 0, .bool false]) ∨ ∃ b : UInt8, e = .returned (.tuple #[.int .u8 (b.toNat : Int), .bool true]) := by
          rcases hp with ⟨_, rfl, _⟩ | ⟨_, rfl, _⟩
          · exact .inl rfl
          · exact .inr ⟨_, rfl⟩
        clear hp
        rcases hret with rfl | ⟨b, rfl⟩
        · go_wp2_with fail
          go_ret2
          have hB1 := HB.out.1
          rw [HB.out.2.2] at hB1
          exact nx_lit HX.out hB1 HB.out.2.1 HO1.out HP.out
        · go_wp2_with fail
          go_ret2
          have hB1 := HB.out.1
          rw [HB.out.2.2] at hB1
          exact nx_lit HX.out hB1 HB.out.2.1 HO1.out HP.out
      · rw [decide_eq_false h0] at KS
        have hr := hpk.2 h0
        have HR := Lib.hid hr
        have HZ := Lib.hid hz
        have HBE := Lib.hid (And.intro hb (And.intro he (And.intro hs hf)))
        clear hlt h hb he hd hw hz hpk hs hB h0 hf hn hr
        go_enter Try.func14, Try.ntmps14
        go_wp2_with fail
        refine KM.out.mono ?_
        rintro e w1 ⟨rfl, rfl⟩
        clear KM
        go_wp2_with fail
        refine KS.out.mono ?_
        rintro e w1 ⟨rfl, hz1, ho1⟩
        have KC := Lib.hid (lcopies_any (s := s) hz1 HZ.out (by have := HN.out; omega) HBE.out.2.2.2 HBE.out.2.2.1 HBE.out.1 HBE.out.2.1)
        rw [← HR.out] at KC
        have HO1 := Lib.hid ho1
        clear hz1 ho1 KS
        go_wp2_with fail
        refine KC.out.mono ?_
        rintro e w2 ⟨z1, t1, left1, ⟨rfl, hl2, ho2⟩, hout, hdict, hnear, ht, hcase⟩
        clear KC
        have HO2 := Lib.hid (HO1.out.trans ho2)
        have hfail : left1 = 0 → stopP (packP decM zf tf pk0) → Hid (Lw K w2 Gw z1 t1 0 ∧ stopP (packP decM zf tf pk0)) := fun h0 h1 => Lib.hid ⟨h0 ▸ hl2, h1⟩
        rcases hcase with ⟨hd1, h10⟩ | ⟨hd1, hb1, _, _, h10⟩ | ⟨hd1, _, he1, hr1, h10⟩ | ⟨hd1, hb1, he1, hh1, hg1, hg2, hr1⟩
        · have HZ2 := hfail h10 (.inl (by rw [← ht]; exact hd1))
          have KE := Lib.hid (lcopied_end HZ2.out.1)
          clear hfail hd1 h10 hl2 ho2 hout hdict hnear ht
          go_wp2_with fail
          refine KE.out.mono ?_
          rintro e w3 ⟨rfl, rfl⟩
          go_wp2_with fail
          go_ret2
          exact .inr ⟨rfl, rfl, HZ2.out.2, _, _, _, Gw, HZ2.out.1, fun i hi => .inl hi, HO2.out.mono fun i hi => .inl hi⟩
        · have HZ2 := hfail h10 (.inr (.inl hb1))
          have KE := Lib.hid (lcopied_end HZ2.out.1)
          clear hfail hd1 h10 hl2 ho2 hout hdict hnear ht hb1
          go_wp2_with fail
          refine KE.out.mono ?_
          rintro e w3 ⟨rfl, rfl⟩
          go_wp2_with fail
          go_ret2
          exact .inr ⟨rfl, rfl, HZ2.out.2, _, _, _, Gw, HZ2.out.1, fun i hi => .inl hi, HO2.out.mono fun i hi => .inl hi⟩
        · have HZ2 := hfail h10 (.inr (.inr (by rw [hr1]; exact he1)))
          have KE := Lib.hid (lcopied_end HZ2.out.1)
          clear hfail hd1 h10 hl2 ho2 hout hdict hnear ht he1 hr1
          go_wp2_with fail
          refine KE.out.mono ?_
          rintro e w3 ⟨rfl, rfl⟩
          go_wp2_with fail
          go_ret2
          exact .inr ⟨rfl, rfl, HZ2.out.2, _, _, _, Gw, HZ2.out.1, fun i hi => .inl hi, HO2.out.mono fun i hi => .inl hi⟩
        · obtain ⟨l, rfl⟩ : ∃ l, left1 = l + 1 := ⟨left1 - 1, by omega⟩
          have hfit1 : Fit K z1 := by
            have := HBE.out.2.2.2
            unfold Fit at *
            rw [hout, hdict]
            exact this
          have KC := Lib.hid (lcopied_any hl2 hfit1 hh1 hnear.r0 (by omega) (by rw [hout]; have := HN.out; omega))
          have HA := Lib.hid (fun (x : Ending) (w3 : World) hp => nx_begin (Gw := Gw) (x := x) (w2 := w3) HO2.out hout hdict hnear hd1 hb1 he1 hh1 hg2 hr1 hp)
          clear hfail hd1 hl2 ho2 hout hdict hnear ht he1 hr1 hb1 hh1 hg1 hg2 hfit1
          go_wp2_with fail
          refine KC.out.mono ?_
          rintro e w3 hp
          have HP := Lib.hid hp
          obtain ⟨rfl, _⟩ := hp
          go_wp2_with fail
          go_ret2
          exact HA.out _ _ HP.out
end
end Go.Proofs.Ytjgdjobhhdhfjaa

/-
  The program's decoder of LZMA begins.
-/
namespace Go.Proofs.Ytjgdjobhhdhfjaa
open Go.RowKit

/-- what a decoder is that has a decoder of ranges -/
def Kon.on (K : Kon) (dg f lo : Nat) (bs : List UInt8) : Kon := { K with dg := dg, f := f, lo := lo, bs := bs }

section
variable {K : Kon} {w w' : World} {Gw : Nat → Prop} {lc lp pb dict : Nat}

set_option maxRecDepth 100000 in
set_option maxHeartbeats 2000000 in
theorem closed_any {fs : List Value} {ps : List Nat} (hB : LzAt w K.g fs ps) (h15 : fs[15]? = some (.slice (some ⟨K.lb, 0, none⟩) K.nl K.nl)) :
    Calls Try.prog 40 #[.pointer (some ⟨K.g, 0, none⟩)] w fun e w' => e = .returned (.bool false) ∧ w = w' := by
  have c := hB.cell 15 (by decide)
  have c : w.cell? ⟨K.g, 1862, none⟩ = some (.slice (some ⟨K.lb, 0, none⟩) K.nl K.nl) := by
    rw [show (1862 : Nat) = fat 15 from rfl, c]
    simp [h15]
  clear hB h15
  have qT : ∀ (w : World) (a : Option Addr) (n c n' c' : Nat), (binOp .eql 68 (.slice a n c) (.slice none n' c')).run Try.prog w = .ok (.bool a.isNone) w := fun w a n c n' c' => Lib.run_eql_slice_nil w _ _ a n c n' c' Try.underlying68
  go_enter Try.func40, Try.ntmps40
  go_wp2_with fail
  go_ret
  exact ⟨rfl, rfl⟩

set_option maxRecDepth 100000 in
set_option maxHeartbeats 4000000 in
theorem lbegin_any {f lo : Nat} {bs : List UInt8} (h : Un K w Gw lc lp pb dict) (hs : SetOk lc lp pb dict) (hnl : K.nl = 768 * 2 ^ (lc + lp)) (hF : Feed w f lo bs 0) (h1 : K.g < lo) (h2 : K.lb < lo) (h3 : K.m < lo) (h4 : ∀ i, Gw i → i < lo) :
    Calls Try.prog 12 #[.pointer (some ⟨K.g, 0, none⟩), .iface 35 (.pointer (some ⟨f, 0, none⟩))] w fun e w' =>
      e = .returned (.tuple #[]) ∧ ∃ dg, w.heap.size ≤ dg ∧ Nx (K.on dg f lo bs) w' Gw (Lzs.start lc lp pb dict) ⟨List.replicate (1847 + K.nl) 1024, started bs⟩ 0 ∧ Only (fun i => i = K.g ∨ i = f) w w' := by
  have KCl := Lib.hid (closed_any h.row.1 rfl)
  have KN := Lib.hid (pnew_any hF)
  have HX := Lib.hid (And.intro h (And.intro hs (And.intro hnl (And.intro hF (And.intro h1 (And.intro h2 (And.intro h3 h4)))))))
  clear h hs hnl hF h1 h2 h3 h4
  go_enter Try.func12, Try.ntmps12
  go_wp2_with fail
  refine KCl.out.mono ?_
  rintro e w1 ⟨rfl, rfl⟩
  clear KCl
  go_wp2_with fail
  refine KN.out.mono ?_
  rintro e w2 ⟨rfl, hP, hO⟩
  have hgf : K.g ≠ f := by
    have := HX.out.2.2.2.1.lo
    have := HX.out.2.2.2.2.1
    omega
  have hlf : K.lb ≠ f := by
    have := HX.out.2.2.2.1.lo
    have := HX.out.2.2.2.2.2.1
    omega
  have hR : Rk K (unFs K lc lp pb dict) w2 (List.replicate (1847 + K.nl) 1024) := (K.prb _ HX.out.1.gn).only HX.out.1.row hO (fun i hi e => by
    subst e
    rcases hi with hi | hi
    · exact hgf hi.symm
    · exact hlf hi.symm)
  have c4 : w2.cell? ⟨K.g, 4, none⟩ = some .nilIface := hR.1.cell 4 (by decide)
  have c5 : w2.cell? ⟨K.g, 5, none⟩ = some (.pointer none) := hR.1.cell 5 (by decide)
  have cl : w2.cell? ⟨K.g, 1863, none⟩ = some (.int .i64 0) := hR.1.cell 16 (by decide)
  have ce : w2.cell? ⟨K.g, 1864, none⟩ = some (.bool false) := hR.1.cell 17 (by decide)
  have cb : w2.cell? ⟨K.g, 1865, none⟩ = some (.bool false) := hR.1.cell 18 (by decide)
  have z4 := hR.1.free 4
  have z5 := hR.1.free 5
  have zl := hR.1.free 1863
  have ze := hR.1.free 1864
  have zb := hR.1.free 1865
  have HP := Lib.hid (And.intro hP (And.intro hO hR))
  clear hP hO hR hgf hlf KN
  go_wp2_with fail
  go_end0
  obtain ⟨hU, hs, hnl, hF, h1, h2, h3, h4⟩ := HX.out
  obtain ⟨hP, hO, hR⟩ := HP.out
  have hgn := hU.gn
  have hw1 := hF.lt
  have hfl := hF.lo
  have p4 := hR.put hgn 4 (by decide) (.iface 35 (.pointer (some ⟨f, 0, none⟩)))
  have p5 := p4.put hgn 5 (by decide) (.pointer (some ⟨w.heap.size, 0, none⟩))
  have p6 := p5.put hgn 16 (by decide) (.int .i64 0)
  have p7 := p6.put hgn 17 (by decide) (.bool false)
  have p8 := p7.put hgn 18 (by decide) (.bool false)
  have hOg := ((((((Only.refl (fun i => i = K.g) w2).setCell (p := ⟨K.g, 4, none⟩) (.inl rfl) (.iface 35 (.pointer (some ⟨f, 0, none⟩)))).setCell (p := ⟨K.g, 5, none⟩) (.inl rfl) (.pointer (some ⟨w.heap.size, 0, none⟩))).setCell (p := ⟨K.g, 1863, none⟩) (.inl rfl) (.int .i64 0)).setCell (p := ⟨K.g, 1864, none⟩) (.inl rfl) (.bool false)).setCell (p := ⟨K.g, 1865, none⟩) (.inl rfl) (.bool false))
  have hOall : Only (fun i => i = K.g ∨ i = f) w _ := (hO.mono fun i hi => .inr hi).trans (hOg.mono fun i hi => .inl hi)
  have hPd := hP.only hOg (fun i hi => .inl (by have := h1; omega))
  have hW : Pwin _ K.wg Gw K.m ⟨K.sz, [], false⟩ := hU.win.only hOall (fun i hi e => by
    have a1 := (hU.wd i hi).1
    have a2 := h4 i hi
    rcases e with e | e
    · exact a1 e
    · omega)
  have hnear : ZNear (Lzs.start lc lp pb dict) (1847 + K.nl) 0 := by
    have := start_near hs
    unfold probsN at this
    rw [hnl]
    exact this
  refine ⟨rfl, w.heap.size, Nat.le_refl _, ⟨⟨⟨hPd, p8, start_pm (dcOk_started bs)⟩, hW, ⟨h1, h2, h3, hgn, hU.mg, hU.mb, fun i hi => ?_⟩⟩, Nat.le_refl _, (by show 0 ≤ 0 + 273; omega), hnear, (fun hh => absurd hh (Nat.lt_irrefl 0)), rfl, rfl, fun j j1 j2 => absurd j2 (Nat.not_lt_zero j)⟩, hOall⟩
  have a1 := hU.wd i hi
  exact ⟨a1.1, a1.2.1, a1.2.2.1, .inl (h4 i hi)⟩
end
end Go.Proofs.Ytjgdjobhhdhfjaa
