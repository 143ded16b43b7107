/-
  LqPlainN, LqPlT: put together.
-/
import Derived.Test.YtdhhibfppcpieaaGreatDoorR23
import Derived.Test.YtdhhibfppcpieaaGreatDoorR01
import Derived.Test.YtdhhibfppcpieaaGreatDoorR02
set_option linter.unusedVariables false
set_option linter.unusedSimpArgs false
/-
  Bytes in plain chunks, as numbers: they are told as they are.
-/
namespace Go.Proofs.YtdhhibfppcpieaaGreatDoor
open Go.RowKit

/-- between two chunks, the bytes r to come -/
structure Bet (q : Lq) (r : List UInt8) : Prop where
  src : q.s.src = true
  ended : q.s.ended = false
  left : q.s.left = 0
  r : q.r = r
/-- the first bytes told, the rest to come -/
def Tells (q : Lq) (D : List UInt8) (q' : Lq) : Prop := ∀ k, Lq.go (D.length + k) q = (Lq.go k q').map (D ++ ·) ∧ (Lq.Flats k q' → Lq.Flats (D.length + k) q)
theorem Tells.refl (q : Lq) : Tells q [] q := fun k => by
  rw [List.length_nil, Nat.zero_add]
  refine ⟨?_, fun h => h⟩
  cases Lq.go k q <;> simp
theorem Tells.trans {q q1 q2 : Lq} {D E : List UInt8} (h : Tells q D q1) (h' : Tells q1 E q2) : Tells q (D ++ E) q2 := fun k => by
  obtain ⟨a1, a2⟩ := h (E.length + k)
  obtain ⟨b1, b2⟩ := h' k
  rw [List.length_append, Nat.add_assoc]
  refine ⟨?_, fun hk => a2 (b2 hk)⟩
  rw [a1, b1]
  cases Lq.go k q2 <;> simp

/-- a plain chunk's bytes, one behind the other -/
theorem tells_bytes : ∀ (D : List UInt8) (q : Lq) (r : List UInt8), q.s.src = true → q.s.left = D.length → q.r = D ++ r → ∃ q', Tells q D q' ∧ q'.s.src = true ∧ q'.s.ended = q.s.ended ∧ q'.s.left = 0 ∧ q'.s.nd = q.s.nd ∧ q'.r = r
  | [], q, r, h1, h2, h3 => ⟨q, Tells.refl q, h1, rfl, h2, rfl, h3⟩
  | x :: D, q, r, h1, h2, h3 => by
    have hl : q.s.left ≠ 0 := by rw [h2]; simp
    have hr : q.rd = { q with r := D ++ r } := rd_more h1 h3
    have hb : q.b = x := b_more h1 h3
    have hc : q.come = q := by unfold Lq.come; rw [if_neg (fun hh => hl hh.1)]
    have hn : q.next = (some x, q.rd.told x) := by
      unfold Lq.next
      rw [hc, if_neg hl]
      unfold Lq.byte
      rw [if_neg (by rw [hr]; simp [h1]), hb]
    obtain ⟨q', t1, t2, t3, t4, t5, t6⟩ := tells_bytes D (q.rd.told x) r (by rw [hr]; exact h1) (by rw [hr]; show q.s.left - 1 = _; rw [h2]; simp) (by rw [hr]; rfl)
    refine ⟨q', fun k => ?_, t2, t3.trans (by rw [hr]; rfl), t4, t5.trans (by rw [hr]; rfl), t6⟩
    obtain ⟨a1, a2⟩ := t1 k
    rw [show (x :: D).length + k = (D.length + k) + 1 by simp; omega]
    refine ⟨?_, fun hk => ⟨fun h0 => absurd h0 hl, fun b hb => ?_⟩⟩
    · rw [go_some (by rw [hn])]
      rw [hn, a1]
      cases Lq.go k q' <;> simp
    · rw [hn]
      exact a2 hk

/-- a state of the same bytes to come -/
theorem tells_come {q : Lq} {D : List UInt8} {q' : Lq} (hf : q.s.left = 0 → q.s.ended = false → q.b.toNat < 128) (h1 : q.come.s.left ≠ 0) (hD : D ≠ []) (h : Tells q.come D q') : Tells q D q' := fun k => by
  obtain ⟨a1, a2⟩ := h k
  have hcc : q.come.come = q.come := by
    generalize q.come = p at *
    unfold Lq.come
    rw [if_neg (fun hh => h1 hh.1)]
  have hnn : q.come.next = q.next := by
    unfold Lq.next
    rw [hcc]
  obtain ⟨m, hm⟩ : ∃ m, D.length + k = m + 1 := by
    cases D with
    | nil => exact absurd rfl hD
    | cons x D => exact ⟨D.length + k, by simp; omega⟩
  rw [hm] at a1 a2 ⊢
  refine ⟨?_, fun hk => ⟨hf, fun b hb => ?_⟩⟩
  · rw [← a1]
    unfold Lq.go
    rw [hnn]
  · have := (a2 hk).2 b (by rw [hnn]; exact hb)
    rw [hnn] at this
    exact this

/-- a chunk ahead of its bytes -/
def headN (first : Bool) (n : Nat) : List UInt8 := [if first = true then 1 else 2, UInt8.ofNat ((n - 1) / 256), UInt8.ofNat ((n - 1) % 256)]
theorem tells_chunk {q : Lq} {D r : List UInt8} {first : Bool} (hq : Bet q (headN first D.length ++ D ++ r)) (hD : D ≠ []) (hl : D.length ≤ 65536) (hn : first = false → q.s.nd % 2 = 0) : ∃ q', Tells q D q' ∧ Bet q' r ∧ q'.s.nd % 2 = 0 := by
  have h0 : 1 ≤ D.length := by cases D with | nil => exact absurd rfl hD | cons => simp
  obtain ⟨x1, hx1⟩ : ∃ x, x = UInt8.ofNat ((D.length - 1) / 256) := ⟨_, rfl⟩
  obtain ⟨x2, hx2⟩ : ∃ x, x = UInt8.ofNat ((D.length - 1) % 256) := ⟨_, rfl⟩
  have e1 : x1.toNat = (D.length - 1) / 256 := by rw [hx1, UInt8.toNat_ofNat']; omega
  have e2 : x2.toNat = (D.length - 1) % 256 := by rw [hx2, UInt8.toNat_ofNat']; omega
  obtain ⟨c, hc⟩ : ∃ c : UInt8, c = if first = true then 1 else 2 := ⟨_, rfl⟩
  have hr : q.r = c :: x1 :: x2 :: (D ++ r) := by rw [hq.r, hc, hx1, hx2]; unfold headN; simp
  have hb : q.b = c := b_more hq.src hr
  have hrd : q.rd = { q with r := x1 :: x2 :: (D ++ r) } := rd_more hq.src hr
  have hcount : ∀ p : Lq, p.s.src = true → p.r = x1 :: x2 :: (D ++ r) → p.plain = { p with s := { p.s with left := D.length, pk := none }, r := D ++ r } := by
    intro p h1 h2
    have a1 : p.rd = { p with r := x2 :: (D ++ r) } := rd_more h1 h2
    have a2 : p.two = { p with r := D ++ r } := by
      unfold Lq.two
      rw [rd_more (by rw [a1]; exact h1) (by rw [a1])]
      rw [a1]
    have a3 : p.count = D.length := by
      unfold Lq.count
      rw [b_more h1 h2, b_more (q := p.rd) (by rw [a1]; exact h1) (by rw [a1]), e1, e2]
      omega
    unfold Lq.plain
    rw [a2, a3, start_on (q := { p with r := D ++ r }) h1]
  have hs : q.rd.s.src = true := by rw [hrd]; exact hq.src
  have hcome : ∃ p : Lq, q.come = p ∧ p.s.src = true ∧ p.s.ended = false ∧ p.s.left = D.length ∧ p.r = D ++ r ∧ p.s.nd % 2 = 0 := by
    have hcc : q.come = q.chunk := by unfold Lq.come; rw [if_pos ⟨hq.left, hq.ended⟩]
    rw [hcc]
    cases first with
    | true =>
      have hc1 : c = 1 := hc
      rw [chunk_anew hs (hb.trans hc1), hcount _ (by rw [hrd]; exact hq.src) (by rw [hrd]; rfl)]
      exact ⟨_, rfl, by rw [hrd]; exact hq.src, by rw [hrd]; exact hq.ended, rfl, rfl, by show 6 % 2 = 0; rfl⟩
    | false =>
      have hc2 : c = 2 := hc
      have hnd : q.rd.s.nd % 2 = 0 := by rw [hrd]; exact hn rfl
      rw [chunk_plain hs (hb.trans hc2) hnd, hcount _ hs (by rw [hrd])]
      exact ⟨_, rfl, hs, by rw [hrd]; exact hq.ended, rfl, rfl, hnd⟩
  obtain ⟨p, hp, p1, p2, p3, p4, p5⟩ := hcome
  obtain ⟨q', t1, t2, t3, t4, t5, t6⟩ := tells_bytes D p r p1 p3 p4
  refine ⟨q', tells_come (fun _ _ => ?_) (by rw [hp, p3]; omega) hD (by rw [hp]; exact t1), ⟨t2, t3.trans p2, t4, t6⟩, by rw [t5]; exact p5⟩
  rw [hb, hc]
  cases first <;> decide

/-- the chunks C tell D -/
def Chunks (C D : List UInt8) : Prop := ∀ t, ∃ q', Tells (q0 (C ++ t)) D q' ∧ Bet q' t ∧ (C ≠ [] → q'.s.nd % 2 = 0)
theorem chunks_none : Chunks [] [] := fun t => ⟨q0 t, Tells.refl _, ⟨rfl, rfl, rfl, rfl⟩, fun h => absurd rfl h⟩
theorem Chunks.more {C D E : List UInt8} (h : Chunks C D) (hE : E ≠ []) (hl : E.length ≤ 65536) : Chunks (C ++ (headN C.isEmpty E.length ++ E)) (D ++ E) := fun t => by
  obtain ⟨q1, a1, a2, a3⟩ := h (headN C.isEmpty E.length ++ E ++ t)
  obtain ⟨q2, b1, b2, b3⟩ := tells_chunk a2 hE hl (fun hf => a3 (by intro e; rw [e] at hf; cases hf))
  rw [List.append_assoc]
  exact ⟨q2, a1.trans b1, b2, fun _ => b3⟩
theorem Bet.zero {q : Lq} {r : List UInt8} (h : Bet q (0 :: r)) : q.ends = r.isEmpty := by
  have hrd : q.rd = { q with r := r } := rd_more h.src h.r
  have hb : q.b = 0 := b_more h.src h.r
  unfold Lq.ends Lq.at_ Lq.last
  rw [if_neg (by simp [h.ended]), if_neg (by simp [h.ended]), hrd, hb]
  simp [h.left, h.src]
theorem Bet.none {q : Lq} (h : Bet q []) : q.ends = false := by
  have hrd : q.rd = q.fail := rd_fail h.src h.r
  unfold Lq.ends Lq.at_ Lq.last
  rw [if_neg (by simp [h.ended]), if_neg (by simp [h.ended]), hrd]
  simp [Lq.fail, Ds.fail]
theorem Chunks.res {C D t : List UInt8} (h : Chunks C D) : Lq.Flats D.length (q0 (C ++ t)) ∧ ∃ q', Bet q' t ∧ Lq.go D.length (q0 (C ++ t)) = if q'.ends = true then some D else none := by
  obtain ⟨q', a1, a2, _⟩ := h t
  obtain ⟨b1, b2⟩ := a1 0
  rw [Nat.add_zero] at b1 b2
  refine ⟨b2 trivial, q', a2, ?_⟩
  rw [b1]
  unfold Lq.go
  split <;> simp
theorem Chunks.ok {C D : List UInt8} (h : Chunks C D) : Lq.Flats D.length (q0 (C ++ [0])) ∧ Lq.go D.length (q0 (C ++ [0])) = some D := by
  obtain ⟨h1, q', h2, h3⟩ := h.res (t := [0])
  refine ⟨h1, ?_⟩
  rw [h3, h2.zero]
  rfl
theorem Chunks.cut {C D : List UInt8} (h : Chunks C D) : Lq.Flats D.length (q0 C) ∧ Lq.go D.length (q0 C) = none := by
  obtain ⟨h1, q', h2, h3⟩ := h.res (t := [])
  rw [List.append_nil] at h1 h3
  refine ⟨h1, ?_⟩
  rw [h3, h2.none]
  rfl
theorem Chunks.long {C D : List UInt8} (h : Chunks C D) : Lq.Flats D.length (q0 (C ++ [0, 0])) ∧ Lq.go D.length (q0 (C ++ [0, 0])) = none := by
  obtain ⟨h1, q', h2, h3⟩ := h.res (t := [0, 0])
  refine ⟨h1, ?_⟩
  rw [h3, h2.zero]
  rfl
end Go.Proofs.YtdhhibfppcpieaaGreatDoor

/-
  Small numbers stay as they are.
-/
namespace Go.Proofs.YtdhhibfppcpieaaGreatDoor
open Go.RowKit

theorem pw1 {t : Nat} (ht : t ≤ 1) : IntKind.i64.wrap ((t : Int) + 1) = (t : Int) + 1 := IntWalk.i64_in _ (by omega)
theorem pw2 {t : Nat} (ht : t ≤ 1) : IntKind.u8.wrap ((t : Int) + 1) = (t : Int) + 1 := by
  obtain rfl | rfl : t = 0 ∨ t = 1 := by omega
  · rfl
  · rfl
theorem pw3 {y z : Nat} (hy : y = z - 1) (h1 : 1 ≤ z) (hz : z ≤ 3000) : IntKind.i64.wrap ((z : Int) - 1) = (y : Int) := by
  rw [show (z : Int) - 1 = (y : Int) by omega]
  exact IntWalk.i64_in _ (by omega)
theorem pw5 {y : Nat} (hy : y < 3000) : wrap64 ((y : Int) / 256) = (y : Int) / 256 := IntWalk.wrap64_in _ (by omega)
theorem pw6 {y : Nat} (hy : y < 3000) : (y : Int) / 256 % 256 = (y : Int) / 256 := by omega
end Go.Proofs.YtdhhibfppcpieaaGreatDoor
