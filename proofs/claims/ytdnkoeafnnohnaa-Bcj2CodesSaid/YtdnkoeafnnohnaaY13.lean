/-
  B2Run, B2Dec, B2DecW: put together.
-/
import Derived.Test.YtdnkoeafnnohnaaY12
import Derived.Test.YtdnkoeafnnohnaaY11
import Derived.Test.YtdnkoeafnnohnaaY09
import Derived.Deep.CutRange
import Derived.Deep.CutBlock
set_option linter.unusedVariables false
set_option linter.unusedSimpArgs false
/-
  The filter told to its end.
-/
namespace Go.Proofs.Ytdnkoeafnnohnaa

section
variable {size : Nat} {s t : B2} {out : List UInt8}

theorem put4_told (u : Nat × B2) : (B2.put4 u).told = u.2.told := by
  have h : ∀ x, ({ u.2 with target := x, waits := 4 } : B2).told = u.2.told := fun _ => rfl
  exact h _
theorem put4_left (u : Nat × B2) : (B2.put4 u).left = u.2.left := by
  have h : ∀ x, ({ u.2 with target := x, waits := 4 } : B2).left = u.2.left := fun _ => rfl
  exact h _
theorem put4_opn (u : Nat × B2) : (B2.put4 u).opn = u.2.opn := by
  have h : ∀ x, ({ u.2 with target := x, waits := 4 } : B2).opn = u.2.opn := fun _ => rfl
  exact h _
theorem put4_src (u : Nat × B2) : (B2.put4 u).src = u.2.src := by
  have h : ∀ x, ({ u.2 with target := x, waits := 4 } : B2).src = u.2.src := fun _ => rfl
  exact h _
theorem put4_bad (u : Nat × B2) : (B2.put4 u).bad = u.2.bad := by
  have h : ∀ x, ({ u.2 with target := x, waits := 4 } : B2).bad = u.2.bad := fun _ => rfl
  exact h _
theorem put4_waits (u : Nat × B2) : (B2.put4 u).waits = 4 := rfl
theorem read_keep (k : Nat) (s : B2) : (s.read k).2.told = s.told ∧ (s.read k).2.left = s.left ∧ (s.read k).2.ahead = s.ahead ∧ (s.read k).2.opn = s.opn ∧ (s.read k).2.waits = s.waits ∧ (s.read k).2.target = s.target := by
  unfold B2.read
  split
  · exact ⟨rfl, rfl, rfl, rfl, rfl, rfl⟩
  · split
    · exact ⟨rfl, rfl, rfl, rfl, rfl, rfl⟩
    · exact ⟨rfl, rfl, rfl, rfl, rfl, rfl⟩
theorem many_keep (k : Nat) (s : B2) : ∀ j, (B2.many k j (0, s)).2.told = s.told ∧ (B2.many k j (0, s)).2.left = s.left ∧ (B2.many k j (0, s)).2.opn = s.opn
  | 0 => ⟨rfl, rfl, rfl⟩
  | j + 1 => by
    have h := many_keep k s j
    have h3 := read_keep k (B2.many k j (0, s)).2
    exact ⟨h3.1.trans h.1, h3.2.1.trans h.2.1, h3.2.2.2.1.trans h.2.2⟩
/-- what an opening keeps -/
theorem open_keep (h : B2In size s out) (hl : s.left ≠ 0) : s.open_.told = s.told ∧ s.open_.left = s.left ∧ s.open_.opn = false ∧ (0 < s.open_.waits → s.open_.bad = false → s.open_.waits ≤ s.left) := by
  unfold B2.open_
  by_cases ho : s.opn = true
  · rw [if_pos ho]
    have hw : s.waits = 0 := by
      rcases Nat.eq_zero_or_pos s.waits with e | e
      · exact e
      · have := (h.wait e).1; rw [ho] at this; cases this
    unfold B2.dec
    split
    · exact ⟨rfl, rfl, rfl, fun h1 _ => by have : s.shut.waits = s.waits := rfl; omega⟩
    · split
      · exact ⟨rfl, rfl, rfl, fun h1 _ => by have : s.shut.bit.2.waits = s.waits := rfl; omega⟩
      · split
        · exact ⟨rfl, rfl, rfl, fun _ h2 => by rw [bad_dead rfl] at h2; cases h2⟩
        · rename_i h4
          have hk := many_keep s.shut.bit.2.strm s.shut.bit.2 4
          refine ⟨(put4_told _).trans hk.1, (put4_left _).trans hk.2.1, (put4_opn _).trans hk.2.2, fun _ _ => ?_⟩
          rw [put4_waits]
          omega
  · rw [if_neg ho]
    exact ⟨rfl, rfl, by simpa using ho, fun h1 _ => (h.wait h1).2⟩
theorem open_ans (h : B2In size s out) (hl : s.left ≠ 0) : ansM size s.open_ out = ansB size s out := by
  have hne : out.length ≠ size := by have := h.left; omega
  unfold B2.open_ ansB
  by_cases ho : s.opn = true
  · rw [if_pos ho]
    cases hb : s.bad with
    | true =>
      rw [if_pos rfl]
      have : s.dec.bad = true := by unfold B2.dec; rw [if_pos hb]; exact hb
      exact ansM_bad this
    | false =>
      rw [if_neg (by simp), if_pos ⟨ho, hne⟩]
      exact dec_ans h hl ho hb
  · rw [if_neg ho]
    cases hb : s.bad with
    | true => rw [if_pos rfl, ansM_bad hb]
    | false => rw [if_neg (by simp), if_neg (fun h => ho h.1)]

theorem leB_succ (t n : Nat) : leB t (n + 1) = UInt8.ofNat (t % 256) :: leB (t / 256) n := rfl
/-- A byte drawn. -/
theorem draw_ans (h1 : t.told = wr32 out.length) (h2 : t.left = size - out.length) (h3 : out.length ≤ size) (ho : t.opn = false) (hw : 0 < t.waits → t.bad = false → t.waits ≤ t.left) (hl : t.left ≠ 0) :
    (t.draw.2.bad = true ∧ ansM size t out = none) ∨
    (t.draw.2.bad = false ∧ ∃ b : UInt8, t.draw.1 = b.toNat ∧ B2In size (t.draw.2.told1 t.draw.1) (out ++ [b]) ∧ ansB size (t.draw.2.told1 t.draw.1) (out ++ [b]) = ansM size t out) := by
  have hlen : ∀ b : UInt8, (out ++ [b]).length = out.length + 1 := fun b => by simp
  have hto : wr32 (t.told + 1) = wr32 (out.length + 1) := by rw [h1]; unfold wr32; omega
  by_cases h0 : t.waits = 0
  · have hdr : t.draw = ((t.read 0).1, { (t.read 0).2 with num := ((mark t.ahead (t.read 0).1).getD 0), opn := (mark t.ahead (t.read 0).1).isSome }) := by unfold B2.draw; rw [if_pos h0]
    cases hb : t.bad with
    | true =>
      rw [hdr, read_bad hb]
      exact .inl ⟨hb, ansM_bad hb⟩
    | false =>
      obtain ⟨hd, r, hr⟩ := not_bad hb
      cases hs : t.src 0 with
      | nil =>
        rw [hdr, read_nil hb hs]
        refine .inl ⟨bad_dead rfl, ?_⟩
        rw [ansM_go hb h0, hs]
        unfold goR
        rw [if_neg (by omega)]
      | cons b m =>
        obtain ⟨v, hv⟩ : ∃ v : B2, v = { t with src := fun i => if i = 0 then m else t.src i, num := ((mark t.ahead b.toNat).getD 0), opn := (mark t.ahead b.toNat).isSome, left := t.left - 1, told := wr32 (t.told + 1), ahead := b.toNat } := ⟨_, rfl⟩
        have hbn : v.bad = false := by rw [hv]; exact bad_some (r := r) hd hr
        have hgo : ∀ o', ansM size v o' = goR size m v.k o' b.toNat := fun o' => by
          rw [ansM_go hbn (by rw [hv]; exact h0), hv]
          rfl
        have hkk : v.k = t.k := by rw [hv]; rfl
        have hvo : v.opn = (mark t.ahead b.toNat).isSome := by rw [hv]
        have hvn : ansO size v (out ++ [b]) = match bitB size t.k (out ++ [b]) ((mark t.ahead b.toNat).getD 0) b.toNat with
          | none => none
          | some (k', o', a') => goR size m k' o' a' := by rw [hv]; rfl
        have hin : B2In size v (out ++ [b]) := by
          rw [hv]
          refine ⟨by show wr32 (t.told + 1) = _; rw [hlen]; exact hto, by show t.left - 1 = _; rw [hlen]; omega, by rw [hlen]; omega, fun hh => ?_⟩
          have hh' : 0 < t.waits := hh
          omega
        have hres : ansB size v (out ++ [b]) = ansM size t out := by
          rw [ansM_go hb h0, hs]
          have hR : goR size (b :: m) t.k out t.ahead = match aftB size t.k (out ++ [b]) t.ahead b.toNat with
            | none => none
            | some (k', o', a') => goR size m k' o' a' := by
            conv => lhs; unfold goR
            rw [if_neg (by omega)]
            rfl
          rw [hR]
          unfold ansB
          rw [if_neg (by rw [hbn]; simp), hvo, hgo, hvn, hkk]
          unfold aftB
          cases hm : mark t.ahead b.toNat with
          | none => rw [if_neg (by simp)]
          | some i =>
            by_cases he : (out ++ [b]).length = size
            · rw [if_neg (fun h => h.2 he)]
              simp only []
              rw [if_pos he]
            · rw [if_pos ⟨rfl, he⟩]
              simp only []
              rw [if_neg he]
              rfl
        rw [hdr, read_cons hb hs]
        rw [hv] at hbn hin hres
        exact .inr ⟨bad_some (r := r) hd hr, b, rfl, hin, hres⟩
  · have hdr : t.draw = (t.target % 256, { t with target := t.target / 256, waits := t.waits - 1 }) := by unfold B2.draw; rw [if_neg h0]
    cases hb : t.bad with
    | true =>
      rw [hdr]
      exact .inl ⟨hb, ansM_bad hb⟩
    | false =>
      obtain ⟨hd, r, hr⟩ := not_bad hb
      have hwl := hw (by omega) hb
      have hx : (UInt8.ofNat (t.target % 256)).toNat = t.target % 256 := by simp
      obtain ⟨n, hn⟩ : ∃ n, t.waits = n + 1 := ⟨t.waits - 1, by omega⟩
      obtain ⟨v, hv⟩ : ∃ v : B2, v = { t with target := t.target / 256, waits := n, left := t.left - 1, told := wr32 (t.told + 1), ahead := t.target % 256 } := ⟨_, rfl⟩
      have hbn : v.bad = false := by rw [hv]; exact bad_some (r := r) hd hr
      have hvo : v.opn = false := by rw [hv]; exact ho
      have hin : B2In size v (out ++ [UInt8.ofNat (t.target % 256)]) := by
        rw [hv]
        exact ⟨by show wr32 (t.told + 1) = _; rw [hlen]; exact hto, by show t.left - 1 = _; rw [hlen]; omega, by rw [hlen]; omega, fun _ => ⟨ho, by show n ≤ t.left - 1; omega⟩⟩
      have hres : ansB size v (out ++ [UInt8.ofNat (t.target % 256)]) = ansM size t out := by
        rw [ansM_wait hb (by omega), hn, leB_succ]
        unfold ansB
        rw [if_neg (by rw [hbn]; simp), if_neg (by rw [hvo]; simp)]
        cases n with
        | zero =>
          rw [ansM_go hbn (by rw [hv]), hv]
          rfl
        | succ n =>
          rw [ansM_wait hbn (by rw [hv]; exact Nat.succ_pos n), hv]
          show goR size (t.src 0) t.k ((out ++ [UInt8.ofNat (t.target % 256)]) ++ leB (t.target / 256) (n + 1)) (lastB (t.target % 256) (t.target / 256) (n + 1)) = _
          rw [List.append_assoc]
          rfl
      rw [hdr, hn, Nat.add_sub_cancel]
      rw [hv] at hin hres
      exact .inr ⟨bad_some (r := r) hd hr, _, hx.symm, hin, hres⟩

/-- One byte told, or none. -/
theorem next_ans (h : B2In size s out) :
    match s.next with
    | (none, s') => ansB size s out = if s'.fin = true then some out else none
    | (some x, s') => ∃ b : UInt8, x = b.toNat ∧ B2In size s' (out ++ [b]) ∧ ansB size s' (out ++ [b]) = ansB size s out := by
  have hlf := h.left
  have hle := h.le
  unfold B2.next
  by_cases hl : s.left = 0
  · rw [if_pos hl]
    show ansB size s out = _
    have hw : s.waits = 0 := by
      rcases Nat.eq_zero_or_pos s.waits with e | e
      · exact e
      · have := (h.wait e).2; omega
    have hz : out.length = size := by omega
    unfold ansB
    cases hb : s.bad with
    | true =>
      rw [if_pos rfl]
      have : s.fin = false := by
        unfold B2.bad at hb
        unfold B2.fin
        cases hd : s.dead with
        | true => simp
        | false =>
          rw [hd] at hb
          cases hdd : s.d with
          | none => simp [end2]
          | some r => rw [hdd] at hb; cases hb
      rw [this]
      rfl
    | false =>
      obtain ⟨hd, r, hr⟩ := not_bad hb
      rw [if_neg (by simp), if_neg (fun hh => hh.2 hz), ansM_go hb hw]
      have hf : s.fin = ((s.src 0).isEmpty && s.k.ends) := by
        unfold B2.fin K2.ends B2.k
        rw [hl, hd]
        simp [Bool.and_assoc]
      rw [hf]
      cases hs : s.src 0 with
      | nil =>
        unfold goR
        rw [if_pos (by omega)]
        rfl
      | cons b m =>
        unfold goR
        rw [if_pos (by omega)]
        rfl
  · rw [if_neg hl]
    obtain ⟨k1, k2, k3, k4⟩ := open_keep h hl
    have hd := draw_ans (size := size) (t := s.open_) (out := out) (k1.trans h.told) (k2.trans hlf) hle k3 (fun h1 h2 => by rw [k2]; exact k4 h1 h2) (by rw [k2]; exact hl)
    rw [open_ans h hl] at hd
    rcases hd with ⟨hb, hd⟩ | ⟨hb, hd⟩
    · rw [if_pos hb]
      show ansB size s out = _
      have hf : s.open_.draw.2.fin = false := by
        unfold B2.fin
        have e : s.open_.draw.2.left = s.left := by
          rw [← k2]
          unfold B2.draw
          split
          · exact (read_keep 0 s.open_).2.1
          · rfl
        have : (s.open_.draw.2.left == 0) = false := by rw [e]; simp [hl]
        rw [this]
        rfl
      rw [hd, hf]
      rfl
    · rw [if_neg (by rw [hb]; simp)]
      exact hd
end
end Go.Proofs.Ytdnkoeafnnohnaa

/-
  The program's Decode: what it takes from each byte told, and its feeds.
-/
namespace Go.Proofs.Ytdnkoeafnnohnaa
open Go.RowKit

section
variable {s : B2}
theorem read_src {k i : Nat} (h : i ≠ k) : (s.read k).2.src i = s.src i := by
  unfold B2.read
  split
  · rfl
  · split
    · rfl
    · exact if_neg h
theorem many_src {k i : Nat} (h : i ≠ k) : ∀ j, (B2.many k j (0, s)).2.src i = s.src i
  | 0 => rfl
  | j + 1 => (read_src h).trans (many_src h j)
theorem draw_good (h : s.draw.2.bad = false) : s.bad = false ∧ s.draw.2.mu + 1 = s.mu := by
  by_cases h0 : s.waits = 0
  · have hdr : s.draw = ((s.read 0).1, { (s.read 0).2 with num := ((mark s.ahead (s.read 0).1).getD 0), opn := (mark s.ahead (s.read 0).1).isSome }) := by unfold B2.draw; rw [if_pos h0]
    rw [hdr] at h ⊢
    have h' : (s.read 0).2.bad = false := h
    obtain ⟨x, t, hb, hs, hr⟩ := read_good h'
    refine ⟨hb, ?_⟩
    rw [hr]
    show ((if 0 = 0 then t else s.src 0)).length + ((if 1 = 0 then t else s.src 1)).length + ((if 2 = 0 then t else s.src 2)).length + s.waits + 1 = s.mu
    unfold B2.mu
    rw [hs]
    simp
    omega
  · have hdr : s.draw = (s.target % 256, { s with target := s.target / 256, waits := s.waits - 1 }) := by unfold B2.draw; rw [if_neg h0]
    rw [hdr] at h ⊢
    refine ⟨h, ?_⟩
    show (s.src 0).length + (s.src 1).length + (s.src 2).length + (s.waits - 1) + 1 = s.mu
    unfold B2.mu
    omega
theorem dec_good (hw : s.waits = 0) (h : s.dec.bad = false) : s.dec.mu ≤ s.mu := by
  unfold B2.dec at h ⊢
  split at h
  · rename_i hb
    have : s.shut.bad = s.bad := rfl
    rw [this, hb] at h
    cases h
  · rename_i hb
    rw [if_neg hb]
    split at h
    · rename_i h0
      rw [if_pos h0]
      exact Nat.le_refl _
    · rename_i h0
      rw [if_neg h0]
      split at h
      · rw [bad_dead rfl] at h; cases h
      · rename_i h4
        rw [if_neg h4]
        rw [put4_bad] at h
        have hk := many_len (s := s.shut.bit.2) (k := s.shut.bit.2.strm) 4 h
        have hm : (B2.put4 s.shut.bit.2.place).mu = (s.shut.bit.2.place.2.src 0).length + (s.shut.bit.2.place.2.src 1).length + (s.shut.bit.2.place.2.src 2).length + 4 := by
          unfold B2.mu
          rw [put4_src, put4_waits]
        rw [hm]
        unfold B2.place
        unfold B2.mu
        have e0 : s.shut.bit.2.src = s.src := rfl
        have hst : s.shut.bit.2.strm = 1 ∨ s.shut.bit.2.strm = 2 := by
          unfold B2.strm
          split
          · exact .inl rfl
          · exact .inr rfl
        rcases hst with e | e
        · rw [e] at hk ⊢
          rw [many_src (i := 0) (by decide), many_src (i := 2) (by decide)]
          rw [e0] at hk ⊢
          omega
        · rw [e] at hk ⊢
          rw [many_src (i := 0) (by decide), many_src (i := 1) (by decide)]
          rw [e0] at hk ⊢
          omega
theorem next_mu {x : Nat} {s' : B2} (hw : s.opn = true → s.waits = 0) (h : s.next = (some x, s')) : s'.mu + 1 ≤ s.mu := by
  unfold B2.next at h
  split at h
  · cases h
  · split at h
    · cases h
    · rename_i hb
      have hb' : s.open_.draw.2.bad = false := by simpa using hb
      obtain ⟨h1, h2⟩ := draw_good hb'
      injection h with _ h
      rw [← h]
      show s.open_.draw.2.mu + 1 ≤ s.mu
      rw [h2]
      unfold B2.open_ at h1 ⊢
      by_cases ho : s.opn = true
      · rw [if_pos ho] at h1 ⊢
        exact dec_good (hw ho) h1
      · rw [if_neg ho]
        exact Nat.le_refl _
theorem B2In.shut {size : Nat} {out : List UInt8} (h : B2In size s out) : s.opn = true → s.waits = 0 := fun ho => by
  rcases Nat.eq_zero_or_pos s.waits with e | e
  · exact e
  · have := (h.wait e).1; rw [ho] at this; cases this
end
theorem new_in (bs : Nat → List UInt8) (n : Nat) : B2In n (B2.new bs n) [] := ⟨rfl, rfl, Nat.zero_le _, fun h => absurd h (Nat.lt_irrefl 0)⟩
theorem new_ans (bs : Nat → List UInt8) (n : Nat) : ansB n (B2.new bs n) [] = goR n (bs 0) ⟨bs 1, bs 2, started (bs 3), List.replicate 258 1024⟩ [] 0 := by
  unfold ansB
  cases hb : (B2.new bs n).bad with
  | true =>
    rw [if_pos rfl]
    have hd : started (bs 3) = none := by
      unfold B2.bad at hb
      have e1 : (B2.new bs n).dead = false := rfl
      have e2 : (B2.new bs n).d = started (bs 3) := rfl
      rw [e1, e2] at hb
      cases h : started (bs 3) with
      | none => rfl
      | some r => rw [h] at hb; cases hb
    exact (goR_bad hd).symm
  | false =>
    rw [if_neg (by simp), if_neg (fun h => by cases h.1)]
    exact ansM_go hb rfl
theorem new_mu (bs : Nat → List UInt8) (n : Nat) : (B2.new bs n).mu = (bs 0).length + (bs 1).length + (bs 2).length := rfl

def sel4 {α : Type} (a b c d : α) : Nat → α
  | 0 => a
  | 1 => b
  | 2 => c
  | _ => d
/-- four feeds, one made behind the other -/
structure Fds (W : World) (l : Nat → List UInt8) (f lo : Nat → Nat) : Prop where
  feed : ∀ k, k < 4 → Feed W (f k) (lo k) (l k) 0
  ord : f 0 < lo 1 ∧ f 1 < lo 2 ∧ f 2 < lo 3
theorem Fds.le {W : World} {l : Nat → List UInt8} {f lo : Nat → Nat} (h : Fds W l f lo) : ∀ k, k < 4 → lo k ≤ f k := fun k hk => (h.feed k hk).lo
theorem Fds.dis {W : World} {l : Nat → List UInt8} {f lo : Nat → Nat} (h : Fds W l f lo) : ∀ k m, k < 4 → m < 4 → k ≠ m → ∀ i, (fdSc (f k) (lo k)).hold i → ¬ (fdSc (f m) (lo m)).hold i := by
  have h0 := h.le 0 (by decide)
  have h1 := h.le 1 (by decide)
  have h2 := h.le 2 (by decide)
  have h3 := h.le 3 (by decide)
  obtain ⟨a, b, c⟩ := h.ord
  intro k m hk hm hne i hi hj
  have hi : lo k ≤ i ∧ i ≤ f k := hi
  have hj : lo m ≤ i ∧ i ≤ f m := hj
  have ek : k = 0 ∨ k = 1 ∨ k = 2 ∨ k = 3 := by omega
  have em : m = 0 ∨ m = 1 ∨ m = 2 ∨ m = 3 := by omega
  rcases ek with rfl | rfl | rfl | rfl <;> rcases em with rfl | rfl | rfl | rfl <;> omega

set_option maxHeartbeats 2000000 in
theorem b2make_any {W : World} {l : Nat → List UInt8} {f0 f1 f2 f3 l0 l1 l2 l3 : Nat} {size : Int} (h : Fds W l (sel4 f0 f1 f2 f3) (sel4 l0 l1 l2 l3)) (hsz : size < 9223372036854775808) :
    Calls Try.prog 15 #[.iface 37 (.pointer (some ⟨f0, 0, none⟩)), .iface 37 (.pointer (some ⟨f1, 0, none⟩)), .iface 37 (.pointer (some ⟨f2, 0, none⟩)), .iface 37 (.pointer (some ⟨f3, 0, none⟩)), .int .i64 size] W fun e w' =>
      e = .returned (.pointer (some ⟨W.heap.size, 0, none⟩)) ∧ ∃ g, Fl w' W.heap.size g (fun k => fdSc (sel4 f0 f1 f2 f3 k) (sel4 l0 l1 l2 l3 k)) l (B2.new l size.toNat) ∧ W.heap.size < g ∧ Only (fun i => i = f3) W w' :=
  b2new_any (S := fun k => fdSc (sel4 f0 f1 f2 f3 k) (sel4 l0 l1 l2 l3 k)) (fun k hk => fd_ok (h.le k hk)) h.dis (fun k hk => h.feed k hk) hsz
end Go.Proofs.Ytdnkoeafnnohnaa

/-
  The program's Decode: the walk.
-/
namespace Go.Proofs.Ytdnkoeafnnohnaa
open Go.RowKit

theorem fds_of {l : Nat → List UInt8} {f0 f1 f2 f3 l0 l1 l2 l3 : Nat} {v1 v2 v3 v4 : World} (a0 : l0 ≤ f0 ∧ Feed v1 f0 l0 (l 0) 0) (a1 : l1 ≤ f1 ∧ Feed v2 f1 l1 (l 1) 0) (a2 : l2 ≤ f2 ∧ Feed v3 f2 l2 (l 2) 0) (a3 : l3 ≤ f3 ∧ Feed v4 f3 l3 (l 3) 0)
    (o1 : Only (fun _ => False) v1 v2) (o2 : Only (fun _ => False) v2 v3) (o3 : Only (fun _ => False) v3 v4) (e1 : l1 = v1.heap.size) (e2 : l2 = v2.heap.size) (e3 : l3 = v3.heap.size) : Fds v4 l (sel4 f0 f1 f2 f3) (sel4 l0 l1 l2 l3) := by
  refine ⟨fun k hk => ?_, ?_, ?_, ?_⟩
  · have : k = 0 ∨ k = 1 ∨ k = 2 ∨ k = 3 := by omega
    rcases this with rfl | rfl | rfl | rfl
    · exact ((a0.2.only o1 (fun _ h => h.elim)).only o2 (fun _ h => h.elim)).only o3 (fun _ h => h.elim)
    · exact (a1.2.only o2 (fun _ h => h.elim)).only o3 (fun _ h => h.elim)
    · exact a2.2.only o3 (fun _ h => h.elim)
    · exact a3.2
  · show f0 < l1
    rw [e1]; exact a0.2.lt
  · show f1 < l2
    rw [e2]; exact a1.2.lt
  · show f2 < l3
    rw [e3]; exact a2.2.lt
theorem cells4_only {B f : Nat} {a0 a1 a2 a3 : Value} {v4 v5 : World} (h : v4.cell? ⟨B, 0, none⟩ = some a0 ∧ v4.cell? ⟨B, 1, none⟩ = some a1 ∧ v4.cell? ⟨B, 2, none⟩ = some a2 ∧ v4.cell? ⟨B, 3, none⟩ = some a3) (hO : Only (fun i => i = f) v4 v5) (hB : B < v4.heap.size) (hf : B < f) :
    v5.cell? ⟨B, 0, none⟩ = some a0 ∧ v5.cell? ⟨B, 1, none⟩ = some a1 ∧ v5.cell? ⟨B, 2, none⟩ = some a2 ∧ v5.cell? ⟨B, 3, none⟩ = some a3 :=
  ⟨(hO.cell (p := ⟨B, 0, none⟩) hB (fun e => by have e : B = f := e; omega)).trans h.1, (hO.cell (p := ⟨B, 1, none⟩) hB (fun e => by have e : B = f := e; omega)).trans h.2.1, (hO.cell (p := ⟨B, 2, none⟩) hB (fun e => by have e : B = f := e; omega)).trans h.2.2.1, (hO.cell (p := ⟨B, 3, none⟩) hB (fun e => by have e : B = f := e; omega)).trans h.2.2.2⟩
theorem Fds.drewN {W : World} {l : Nat → List UInt8} {f lo : Nat → Nat} (h : Fds W l f lo) (n : Nat) : Fds (W.drewN n) l f lo := ⟨fun k hk => (h.feed k hk).drewN n, h.ord⟩
/-- what is held while bytes are told -/
structure Dh (w w5 wr : World) (F g : Nat) (S : Nat → Sc) (l : Nat → List UInt8) (s : B2) (O : Option Addr) (co : Nat) (out : List UInt8) : Prop where
  fl : Fl wr F g S l s
  own : wr.ownsRow w5.heap.size 5 1 (.slice O out.length co) out.length (bv out)
  bel : Below w.heap.size w wr
  size : w5.heap.size ≤ wr.heap.size
structure Low (w w5 : World) (F g : Nat) (S : Nat → Sc) : Prop where
  set : ∀ i, fset F g S i → w.heap.size ≤ i ∧ i < w5.heap.size
  hold : ∀ i, (i = F ∨ i = g ∨ ∃ k, k < 4 ∧ (S k).hold i) → i < w5.heap.size
theorem Dh.told {w w5 wr w' : World} {F g : Nat} {S : Nat → Sc} {l : Nat → List UInt8} {s s' : B2} {O : Option Addr} {co : Nat} {out : List UInt8} (h : Dh w w5 wr F g S l s O co out) (hL : Low w w5 F g S) (hw : w.heap.size ≤ w5.heap.size)
    (hf : Fl w' F g S l s') (hO : Only (fset F g S) wr w') : Dh w w5 w' F g S l s' O co out :=
  ⟨hf, own_onlyV h.own hO (fun q hq hs => by have h1 := (own_at h.own hq).1; have h2 := (hL.set q hs).2; omega), h.bel.trans (hO.below h.bel.size (fun i hi => (hL.set i hi).1)), Nat.le_trans h.size hO.size⟩
theorem Dh.app {w w5 wr w1 w' : World} {F g : Nat} {S : Nat → Sc} {l : Nat → List UInt8} {s : B2} {O O' : Option Addr} {co co' : Nat} {out x : List UInt8} (h : Dh w w5 wr F g S l s O co out) (hL : Low w w5 F g S) (hw : w.heap.size ≤ w5.heap.size)
    (hb : Below wr.heap.size wr w1) (ho : w'.ownsRow w5.heap.size 5 1 (.slice O' (out ++ x).length co') (out ++ x).length (bv (out ++ x))) (hg : w1.grownBy w' (Value.slice O out.length co).ownBlock) : Dh w w5 w' F g S l s O' co' (out ++ x) := by
  have hO1 := Only.of_below (S := fun i => (Value.slice O out.length co).ownBlock = some i) hb
  have hO2 : Only (fun i => (Value.slice O out.length co).ownBlock = some i) w1 w' := ⟨hg.os, hg.tape, hg.output, hg.size, fun i hi hne => hg.block i hi (fun e => hne e.symm)⟩
  have hO := hO1.trans hO2
  have hge : ∀ i, (Value.slice O out.length co).ownBlock = some i → w5.heap.size ≤ i := fun i hi => (own_at h.own hi).1
  exact ⟨h.fl.only hO (fun i hi => by
    have h1 := hge i hi
    refine ⟨fun e => ?_, fun e => ?_, fun k hk hh => ?_⟩
    · have := hL.hold i (.inl e); omega
    · have := hL.hold i (.inr (.inl e)); omega
    · have := hL.hold i (.inr (.inr ⟨k, hk, hh⟩)); omega), ho, h.bel.trans (hO.below h.bel.size (fun i hi => by have := hge i hi; omega)), Nat.le_trans h.size hO.size⟩
def slLen (v : Value) : Nat := match v with | .slice _ n _ => n | _ => 0
/-- a byte that was just told, or none -/
def DNext (size : Nat) (ans : Option (List UInt8)) (M : Nat) (s : B2) (out : List UInt8) (x : Value) (ok : Value) : Prop :=
  (∃ b : UInt8, x = .int .u8 (b.toNat : Int) ∧ ok = .bool true ∧ B2In size s (out ++ [b]) ∧ ansB size s (out ++ [b]) = ans ∧ (out ++ [b]).length + s.mu ≤ M) ∨
  (x = .int .u8 0 ∧ ok = .bool false ∧ ans = if s.fin = true then some out else none)
theorem dnext_of {size M : Nat} {ans : Option (List UInt8)} {s : B2} {out : List UInt8} (h : B2In size s out) (ha : ansB size s out = ans) (hm : out.length + s.mu ≤ M) :
    ∃ x ok, nextV s.next.1 = .tuple #[x, ok] ∧ DNext size ans M s.next.2 out x ok := by
  have hn := next_ans h
  cases hx : s.next with
  | mk o s' =>
    rw [hx] at hn
    cases o with
    | none => exact ⟨_, _, rfl, .inr ⟨rfl, rfl, by rw [← ha]; exact hn⟩⟩
    | some x =>
      obtain ⟨b, rfl, h1, h2⟩ := hn
      have hmu := next_mu h.shut hx
      refine ⟨_, _, rfl, .inl ⟨b, rfl, rfl, h1, h2.trans ha, ?_⟩⟩
      rw [List.length_append]
      show out.length + 1 + s'.mu ≤ M
      omega

set_option maxRecDepth 100000 in
set_option maxHeartbeats 16000000 in
theorem b2decode_any {w : World} {A : Nat → Option Addr} {c : Nat → Nat} {l : Nat → List UInt8} {size : Int} {ans : Option (List UInt8)} (hF : FourOk w A c l) (hsz : size < 9223372036854775808)
    (hans : ans = goR size.toNat (l 0) ⟨l 1, l 2, started (l 3), List.replicate 258 1024⟩ [] 0) :
    Calls Try.prog 9 #[.agg (fourA A c l), .int .i64 size] w (RdPost w ans) := by
  obtain ⟨i8, hi8, hz0, hz1, hz2⟩ := info_parts info_u8
  obtain ⟨wb, hwb⟩ : ∃ wb, wb = w.alloc (.cells (fourA A c l) 24) := ⟨_, rfl⟩
  have hb1 : Below w.heap.size w wb := by rw [hwb]; exact (Below.refl _ _).alloc (Nat.le_refl _) _
  have hB1 : Blk wb w.heap.size 24 (fourA A c l) := by rw [hwb]; exact Blk.fresh _ _ _
  have hs1 : w.heap.size < wb.heap.size := hB1.lt
  have HSS := Lib.hid (show ∀ W, Below wb.heap.size wb W → W.cell? ⟨w.heap.size, 0, none⟩ = some (.slice (A 0) (l 0).length (c 0)) ∧ W.cell? ⟨w.heap.size, 1, none⟩ = some (.slice (A 1) (l 1).length (c 1)) ∧
      W.cell? ⟨w.heap.size, 2, none⟩ = some (.slice (A 2) (l 2).length (c 2)) ∧ W.cell? ⟨w.heap.size, 3, none⟩ = some (.slice (A 3) (l 3).length (c 3)) from fun W hW => by
    have h := hB1.below hW
    exact ⟨h.cell 0, h.cell 1, h.cell 2, h.cell 3⟩)
  have KS := Lib.hid (show ∀ k, k < 4 → ∀ W, Below wb.heap.size wb W → Calls Try.prog 16 #[.slice (A k) (l k).length (c k)] W (fun e w' => ∃ g, e = .returned (.pointer (some ⟨g, 0, none⟩)) ∧ (W.heap.size ≤ g ∧ Feed w' g W.heap.size (l k) 0) ∧ Only (fun _ => False) W w' ∧ Below wb.heap.size wb w') from fun k hk W hW => by
    refine (newFeed_any (c := c k) (((hF.sl k hk).below hb1).below hW) (by have := hF.len k hk; omega)).mono ?_
    rintro e w' ⟨g, rfl, h1, h2, h3⟩
    exact ⟨g, rfl, ⟨h1, h2⟩, Only.of_below h3, hW.trans (h3.mono hW.size)⟩)
  have x0 := HSS.out wb (Below.refl _ _)
  have HH := Lib.hid (And.intro hF (And.intro hb1 (And.intro hB1 hs1)))
  have HANS := Lib.hid (And.intro hans hsz)
  unfold fourA at hwb
  have HWL := Lib.hid hwb
  clear hF hb1 hB1 hs1 hwb hans hsz
  unfold fourA
  go_enter Try.func9, Try.ntmps9
  go_upto_region 1 with fail
  rw [← HWL.out]
  clear HWL
  have K0 := Lib.hid (fun W (hW : Below wb.heap.size wb W) => KS.out 0 (by decide) W hW)
  have K1 := Lib.hid (fun W (hW : Below wb.heap.size wb W) => KS.out 1 (by decide) W hW)
  have K2_ := Lib.hid (fun W (hW : Below wb.heap.size wb W) => KS.out 2 (by decide) W hW)
  have K3 := Lib.hid (fun W (hW : Below wb.heap.size wb W) => KS.out 3 (by decide) W hW)
  have HB0 := Lib.hid (Below.refl wb.heap.size wb)
  clear KS
  go_region_held3 (fun W => W.cell? ⟨w.heap.size, 0, none⟩ = some (.slice (A 0) (l 0).length (c 0)) ∧ W.cell? ⟨w.heap.size, 1, none⟩ = some (.slice (A 1) (l 1).length (c 1)) ∧ W.cell? ⟨w.heap.size, 2, none⟩ = some (.slice (A 2) (l 2).length (c 2)) ∧ W.cell? ⟨w.heap.size, 3, none⟩ = some (.slice (A 3) (l 3).length (c 3)))
    (first | assumption | go_keep | exact x0 | exact r1 | exact r2 | exact r3 | exact r4 | exact r5 | trivial)
    (first
    | (go_at_call 16; refine (K0.out _ (by first | exact HB0.out | exact below_drewN HB0.out _)).mono ?_; rintro e v1 ⟨f0, rfl, fd0, o0, b0⟩; have o0 : Only (fun _ => False) wb v1 := (by first | exact o0.of_drewN | exact o0.of_drew | exact o0); have r1 := HSS.out v1 b0; have HB1 := Lib.hid b0; have HF1 := Lib.hid (And.intro fd0 o0); clear fd0 o0 b0 K0)
    | (go_at_call 16; refine (K1.out _ (by first | exact HB1.out | exact below_drewN HB1.out _)).mono ?_; rintro e v2 ⟨f1, rfl, fd1, o1, b1⟩; have o1 : Only (fun _ => False) v1 v2 := (by first | exact o1.of_drewN | exact o1.of_drew | exact o1); have r2 := HSS.out v2 b1; have HB2 := Lib.hid b1; have HF2 := Lib.hid (And.intro fd1 o1); clear fd1 o1 b1 K1)
    | (go_at_call 16; refine (K2_.out _ (by first | exact HB2.out | exact below_drewN HB2.out _)).mono ?_; rintro e v3 ⟨f2, rfl, fd2, o2, b2⟩; have o2 : Only (fun _ => False) v2 v3 := (by first | exact o2.of_drewN | exact o2.of_drew | exact o2); have r3 := HSS.out v3 b2; have HB3 := Lib.hid b2; have HF3 := Lib.hid (And.intro fd2 o2); clear fd2 o2 b2 K2_)
    | (go_at_call 16; refine (K3.out _ (by first | exact HB3.out | exact below_drewN HB3.out _)).mono ?_; rintro e v4 ⟨f3, rfl, fd3, o3, b3⟩; have o3 : Only (fun _ => False) v3 v4 := (by first | exact o3.of_drewN | exact o3.of_drew | exact o3); have r4 := HSS.out v4 b3; have HB4 := Lib.hid b3; have HF4 := Lib.hid (fds_of HF1.out.1 HF2.out.1 HF3.out.1 fd3 HF2.out.2 HF3.out.2 o3 rfl rfl rfl); clear fd3 o3 b3 K3)
    | (go_at_call 15; refine (b2make_any (size := size) (by first | exact HF4.out | exact HF4.out.drewN _) HANS.out.2).mono ?_; rintro e v5 ⟨rfl, g, hfl, hgg, hon⟩; have hon : Only (fun i => i = f3) v4 v5 := (by first | exact hon.of_drewN | exact hon.of_drew | exact hon); have r5 := cells4_only r4 hon (Nat.lt_of_lt_of_le HH.out.2.2.2 HB4.out.size) (Nat.lt_of_lt_of_le (Nat.lt_of_lt_of_le HH.out.2.2.2 HB3.out.size) (HF4.out.le 3 (by decide))); have HN := Lib.hid (And.intro hfl (And.intro hgg hon)); clear hfl hgg hon)
    | fail)
  obtain ⟨S, hS⟩ : ∃ S : Nat → Sc, S = fun k => fdSc (sel4 f0 f1 f2 f3 k) (sel4 wb.drew.heap.size v1.heap.size v2.heap.size v3.heap.size k) := ⟨_, rfl⟩
  obtain ⟨hfl, hgg, hon⟩ := HN.out
  rw [← hS] at hfl
  have hlo : ∀ k, k < 4 → wb.heap.size ≤ sel4 wb.drew.heap.size v1.heap.size v2.heap.size v3.heap.size k := fun k hk => by
    have h1 := HB1.out.size
    have h2 := HB2.out.size
    have h3 := HB3.out.size
    have : k = 0 ∨ k = 1 ∨ k = 2 ∨ k = 3 := by omega
    rcases this with rfl | rfl | rfl | rfl
    · exact Nat.le_refl _
    · exact h1
    · exact h2
    · exact h3
  have hfi : ∀ k, k < 4 → sel4 f0 f1 f2 f3 k < v4.heap.size := fun k hk => (HF4.out.feed k hk).lt
  have hLow : Low w v5 v4.heap.size g S := by
    have hs1 := HH.out.2.2.2
    have hb4 := HB4.out.size
    have hold := hfl.old
    have hg5 := (hfl.pd rfl).lt
    refine ⟨fun i hi => ?_, fun i hi => ?_⟩
    · rcases hi with rfl | rfl | ⟨k, hk, hi⟩
      · exact ⟨by omega, hold⟩
      · exact ⟨by omega, hg5⟩
      · rw [hS] at hi
        have hi : i = sel4 f0 f1 f2 f3 k := hi
        have h1 := hlo k hk
        have h2 := hfi k hk
        have h3 := HF4.out.le k hk
        rw [hi]
        exact ⟨by omega, by omega⟩
    · rcases hi with rfl | rfl | ⟨k, hk, hi⟩
      · exact hold
      · exact hg5
      · rw [hS] at hi
        have hi : _ ≤ i ∧ i ≤ sel4 f0 f1 f2 f3 k := hi
        have h2 := hfi k hk
        omega
  have hbel : Below w.heap.size w v5 := by
    have hs1 := HH.out.2.2.2
    have h4 : Below w.heap.size w v4 := HH.out.2.1.trans (HB4.out.mono (Nat.le_of_lt hs1))
    refine h4.trans (hon.below h4.size (fun i hi => ?_))
    have h1 := hlo 3 (by decide)
    have h3 := HF4.out.le 3 (by decide)
    have h2 : i = sel4 f0 f1 f2 f3 3 := hi
    rw [h2]
    omega
  have hw5 : w.heap.size ≤ v5.heap.size := hbel.size
  have hD0 : Dh w v5 v5 v4.heap.size g S l (B2.new l size.toNat) none 0 [] := ⟨hfl, World.ownsRow_nil _ _ _ 1, hbel, Nat.le_refl _⟩
  have HD0 := Lib.hid hD0
  have HLOW := Lib.hid (And.intro hLow hw5)
  obtain ⟨M, hM⟩ : ∃ M, M = (l 0).length + (l 1).length + (l 2).length := ⟨_, rfl⟩
  have HM := Lib.hid (show M ≤ 49200 by
    have h0 := HH.out.1.len 0 (by decide)
    have h1 := HH.out.1.len 1 (by decide)
    have h2 := HH.out.1.len 2 (by decide)
    omega)
  obtain ⟨x1, ok1, hv1, hd1⟩ := dnext_of (M := M) (new_in l size.toNat) (new_ans l size.toNat) (by rw [new_mu, hM]; show 0 + _ ≤ _; omega)
  rw [← HANS.out.1] at hd1
  have K1 := Lib.hid (b2next_any hfl)
  rw [hv1] at K1
  have HD1 := Lib.hid hd1
  clear hfl hgg hon hlo hfi hLow hbel hw5 hD0 hM hv1 hd1 HN HF1 HF2 HF3 HF4 HB0 HB1 HB2 HB3 HB4 HSS x0 r1 r2 r3 r4 r5 hS
  generalize v4.heap.size = F at *
  go_wp2_with fail
  refine K1.out.mono ?_
  rintro e w6 ⟨rfl, hf6, ho6⟩
  have HD6 := Lib.hid (HD0.out.told HLOW.out.1 HLOW.out.2 hf6 ho6)
  clear hf6 ho6 K1
  go_wp2_with fail
  go_loopw [7, 8, 9] (fun o x ok wr => ∃ (s : B2) (O : Option Addr) (co : Nat) (out : List UInt8), o = .slice O out.length co ∧ Dh w v5 wr F g S l s O co out ∧ DNext size.toNat ans M s out x ok) (fun o _ _ _ => size.toNat - slLen o)
  case atStart => exact ⟨_, none, 0, [], rfl, HD6.out, HD1.out⟩
  case round =>
    obtain ⟨s, O, co, out, rfl, hD, hN⟩ := hrel
    clear HD6 HD1 HD0
    rcases hN with ⟨b, rfl, rfl, hin, ha, hm⟩ | ⟨rfl, rfl, ha⟩
    · have hle : (out ++ [b]).length = out.length + 1 := by simp
      have hap : (out.length + 1) * 1 ≤ 140737488355328 := by have := HM.out; rw [hle] at hm; omega
      have hbs : v5.heap.size ≤ (wr.alloc (.cells #[.int .u8 (b.toNat : Int)] 5)).heap.size := by have := hD.size; simp; omega
      have HOW := Lib.hid hD.own
      have HD := Lib.hid hD
      have HI := Lib.hid (And.intro hin (And.intro ha hm))
      clear hD hin ha hm
      go_wp2_with (first
        | (at_builtin; refine wpList_app _ rfl (.tmp 39) (.tmp 41) 22 rfl v5.heap.size 5 i8 _ 1 Try.underlying22 hi8 hz0 hz1 hz2 rfl _ out.length (bv out) rfl (HOW.out.alloc _) _ 1 1 [.int .u8 (b.toNat : Int)] rfl (sl_one _ _ _) (one_one _ _) hap (by decide) hbs ?_)
        | fail)
      intro O3 co3 w3 ho3 hg3
      have hD3 := HD.out.app HLOW.out.1 HLOW.out.2 ((Below.refl _ wr).alloc (Nat.le_refl _) (.cells #[.int .u8 (b.toNat : Int)] 5)) (x := [b]) (O' := O3) (co' := co3) (w' := w3) (by rw [bv_append, hle]; exact ho3) hg3
      obtain ⟨x2, ok2, hv2, hd2⟩ := dnext_of HI.out.1 HI.out.2.1 HI.out.2.2
      have K := Lib.hid (b2next_any hD3.fl)
      rw [hv2] at K
      have HD2 := Lib.hid hd2
      have HD3 := Lib.hid hD3
      clear ho3 hg3 hD3 hv2 hd2 hap hbs
      go_wp2_with fail
      refine K.out.mono ?_
      rintro e w4 ⟨rfl, hf4, ho4⟩
      have HD4 := Lib.hid (HD3.out.told HLOW.out.1 HLOW.out.2 hf4 ho4)
      clear hf4 ho4 K
      go_wp2_with fail
      go_roundw
      case rel => exact ⟨_, O3, co3, out ++ [b], by rw [hle], HD4.out, HD2.out⟩
      case measure =>
        have := HI.out.1.le
        rw [hle] at this
        show size.toNat - (out.length + 1) < size.toNat - out.length
        omega
    · have K := Lib.hid (b2finish_any hD.fl)
      have HD := Lib.hid hD
      cases hf : s.fin with
      | true =>
        rw [hf] at K ha
        have HA := Lib.hid ha
        clear hD hf ha
        go_wp2_with fail
        refine K.out.mono ?_
        rintro e w4 ⟨rfl, hf4, ho4⟩
        have HD4 := Lib.hid (HD.out.told HLOW.out.1 HLOW.out.2 hf4 ho4)
        clear hf4 ho4 K
        go_wp2_with fail
        go_ret2
        exact ⟨HD4.out.bel, .inr ⟨out, O, co, by rw [HA.out]; rfl, rfl, Sl.of_own HD4.out.own⟩⟩
      | false =>
        rw [hf] at K ha
        have HA := Lib.hid ha
        clear hD hf ha
        go_wp2_with fail
        refine K.out.mono ?_
        rintro e w4 ⟨rfl, hf4, ho4⟩
        have HD4 := Lib.hid (HD.out.told HLOW.out.1 HLOW.out.2 hf4 ho4)
        clear hf4 ho4 K
        go_wp2_with fail
        go_ret2
        exact ⟨HD4.out.bel, .inl ⟨by rw [HA.out]; rfl, rfl⟩⟩
end Go.Proofs.Ytdnkoeafnnohnaa
