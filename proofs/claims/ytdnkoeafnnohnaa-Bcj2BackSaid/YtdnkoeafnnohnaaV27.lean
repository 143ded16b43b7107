/-
  B2Run, B2Dec: put together.
-/
import Derived.Test.YtdnkoeafnnohnaaV26
import Derived.Test.YtdnkoeafnnohnaaV24
import Derived.Test.YtdnkoeafnnohnaaV17
set_option linter.unusedVariables false
set_option linter.unusedSimpArgs false
/-
  The filter told to its end.
-/
namespace Go.Proofs.Ytdnkoeafnnohnaa

section
variable {size : Nat} {s t : B2} {out : List UInt8}

theorem put4_told (u : Nat × B2) : (B2.put4 u).told = u.2.told := by
  have h : ∀ x, ({ u.2 with target := x, waits := 4 } : B2).told = u.2.told := fun _ => rfl
  exact h _
theorem put4_left (u : Nat × B2) : (B2.put4 u).left = u.2.left := by
  have h : ∀ x, ({ u.2 with target := x, waits := 4 } : B2).left = u.2.left := fun _ => rfl
  exact h _
theorem put4_opn (u : Nat × B2) : (B2.put4 u).opn = u.2.opn := by
  have h : ∀ x, ({ u.2 with target := x, waits := 4 } : B2).opn = u.2.opn := fun _ => rfl
  exact h _
theorem put4_src (u : Nat × B2) : (B2.put4 u).src = u.2.src := by
  have h : ∀ x, ({ u.2 with target := x, waits := 4 } : B2).src = u.2.src := fun _ => rfl
  exact h _
theorem put4_bad (u : Nat × B2) : (B2.put4 u).bad = u.2.bad := by
  have h : ∀ x, ({ u.2 with target := x, waits := 4 } : B2).bad = u.2.bad := fun _ => rfl
  exact h _
theorem put4_waits (u : Nat × B2) : (B2.put4 u).waits = 4 := rfl
theorem read_keep (k : Nat) (s : B2) : (s.read k).2.told = s.told ∧ (s.read k).2.left = s.left ∧ (s.read k).2.ahead = s.ahead ∧ (s.read k).2.opn = s.opn ∧ (s.read k).2.waits = s.waits ∧ (s.read k).2.target = s.target := by
  unfold B2.read
  split
  · exact ⟨rfl, rfl, rfl, rfl, rfl, rfl⟩
  · split
    · exact ⟨rfl, rfl, rfl, rfl, rfl, rfl⟩
    · exact ⟨rfl, rfl, rfl, rfl, rfl, rfl⟩
theorem many_keep (k : Nat) (s : B2) : ∀ j, (B2.many k j (0, s)).2.told = s.told ∧ (B2.many k j (0, s)).2.left = s.left ∧ (B2.many k j (0, s)).2.opn = s.opn
  | 0 => ⟨rfl, rfl, rfl⟩
  | j + 1 => by
    have h := many_keep k s j
    have h3 := read_keep k (B2.many k j (0, s)).2
    exact ⟨h3.1.trans h.1, h3.2.1.trans h.2.1, h3.2.2.2.1.trans h.2.2⟩
/-- what an opening keeps -/
theorem open_keep (h : B2In size s out) (hl : s.left ≠ 0) : s.open_.told = s.told ∧ s.open_.left = s.left ∧ s.open_.opn = false ∧ (0 < s.open_.waits → s.open_.bad = false → s.open_.waits ≤ s.left) := by
  unfold B2.open_
  by_cases ho : s.opn = true
  · rw [if_pos ho]
    have hw : s.waits = 0 := by
      rcases Nat.eq_zero_or_pos s.waits with e | e
      · exact e
      · have := (h.wait e).1; rw [ho] at this; cases this
    unfold B2.dec
    split
    · exact ⟨rfl, rfl, rfl, fun h1 _ => by have : s.shut.waits = s.waits := rfl; omega⟩
    · split
      · exact ⟨rfl, rfl, rfl, fun h1 _ => by have : s.shut.bit.2.waits = s.waits := rfl; omega⟩
      · split
        · exact ⟨rfl, rfl, rfl, fun _ h2 => by rw [bad_dead rfl] at h2; cases h2⟩
        · rename_i h4
          have hk := many_keep s.shut.bit.2.strm s.shut.bit.2 4
          refine ⟨(put4_told _).trans hk.1, (put4_left _).trans hk.2.1, (put4_opn _).trans hk.2.2, fun _ _ => ?_⟩
          rw [put4_waits]
          omega
  · rw [if_neg ho]
    exact ⟨rfl, rfl, by simpa using ho, fun h1 _ => (h.wait h1).2⟩
theorem open_ans (h : B2In size s out) (hl : s.left ≠ 0) : ansM size s.open_ out = ansB size s out := by
  have hne : out.length ≠ size := by have := h.left; omega
  unfold B2.open_ ansB
  by_cases ho : s.opn = true
  · rw [if_pos ho]
    cases hb : s.bad with
    | true =>
      rw [if_pos rfl]
      have : s.dec.bad = true := by unfold B2.dec; rw [if_pos hb]; exact hb
      exact ansM_bad this
    | false =>
      rw [if_neg (by simp), if_pos ⟨ho, hne⟩]
      exact dec_ans h hl ho hb
  · rw [if_neg ho]
    cases hb : s.bad with
    | true => rw [if_pos rfl, ansM_bad hb]
    | false => rw [if_neg (by simp), if_neg (fun h => ho h.1)]

theorem leB_succ (t n : Nat) : leB t (n + 1) = UInt8.ofNat (t % 256) :: leB (t / 256) n := rfl
/-- A byte drawn. -/
theorem draw_ans (h1 : t.told = wr32 out.length) (h2 : t.left = size - out.length) (h3 : out.length ≤ size) (ho : t.opn = false) (hw : 0 < t.waits → t.bad = false → t.waits ≤ t.left) (hl : t.left ≠ 0) :
    (t.draw.2.bad = true ∧ ansM size t out = none) ∨
    (t.draw.2.bad = false ∧ ∃ b : UInt8, t.draw.1 = b.toNat ∧ B2In size (t.draw.2.told1 t.draw.1) (out ++ [b]) ∧ ansB size (t.draw.2.told1 t.draw.1) (out ++ [b]) = ansM size t out) := by
  have hlen : ∀ b : UInt8, (out ++ [b]).length = out.length + 1 := fun b => by simp
  have hto : wr32 (t.told + 1) = wr32 (out.length + 1) := by rw [h1]; unfold wr32; omega
  by_cases h0 : t.waits = 0
  · have hdr : t.draw = ((t.read 0).1, { (t.read 0).2 with num := ((mark t.ahead (t.read 0).1).getD 0), opn := (mark t.ahead (t.read 0).1).isSome }) := by unfold B2.draw; rw [if_pos h0]
    cases hb : t.bad with
    | true =>
      rw [hdr, read_bad hb]
      exact .inl ⟨hb, ansM_bad hb⟩
    | false =>
      obtain ⟨hd, r, hr⟩ := not_bad hb
      cases hs : t.src 0 with
      | nil =>
        rw [hdr, read_nil hb hs]
        refine .inl ⟨bad_dead rfl, ?_⟩
        rw [ansM_go hb h0, hs]
        unfold goR
        rw [if_neg (by omega)]
      | cons b m =>
        obtain ⟨v, hv⟩ : ∃ v : B2, v = { t with src := fun i => if i = 0 then m else t.src i, num := ((mark t.ahead b.toNat).getD 0), opn := (mark t.ahead b.toNat).isSome, left := t.left - 1, told := wr32 (t.told + 1), ahead := b.toNat } := ⟨_, rfl⟩
        have hbn : v.bad = false := by rw [hv]; exact bad_some (r := r) hd hr
        have hgo : ∀ o', ansM size v o' = goR size m v.k o' b.toNat := fun o' => by
          rw [ansM_go hbn (by rw [hv]; exact h0), hv]
          rfl
        have hkk : v.k = t.k := by rw [hv]; rfl
        have hvo : v.opn = (mark t.ahead b.toNat).isSome := by rw [hv]
        have hvn : ansO size v (out ++ [b]) = match bitB size t.k (out ++ [b]) ((mark t.ahead b.toNat).getD 0) b.toNat with
          | none => none
          | some (k', o', a') => goR size m k' o' a' := by rw [hv]; rfl
        have hin : B2In size v (out ++ [b]) := by
          rw [hv]
          refine ⟨by show wr32 (t.told + 1) = _; rw [hlen]; exact hto, by show t.left - 1 = _; rw [hlen]; omega, by rw [hlen]; omega, fun hh => ?_⟩
          have hh' : 0 < t.waits := hh
          omega
        have hres : ansB size v (out ++ [b]) = ansM size t out := by
          rw [ansM_go hb h0, hs]
          have hR : goR size (b :: m) t.k out t.ahead = match aftB size t.k (out ++ [b]) t.ahead b.toNat with
            | none => none
            | some (k', o', a') => goR size m k' o' a' := by
            conv => lhs; unfold goR
            rw [if_neg (by omega)]
            rfl
          rw [hR]
          unfold ansB
          rw [if_neg (by rw [hbn]; simp), hvo, hgo, hvn, hkk]
          unfold aftB
          cases hm : mark t.ahead b.toNat with
          | none => rw [if_neg (by simp)]
          | some i =>
            by_cases he : (out ++ [b]).length = size
            · rw [if_neg (fun h => h.2 he)]
              simp only []
              rw [if_pos he]
            · rw [if_pos ⟨rfl, he⟩]
              simp only []
              rw [if_neg he]
              rfl
        rw [hdr, read_cons hb hs]
        rw [hv] at hbn hin hres
        exact .inr ⟨bad_some (r := r) hd hr, b, rfl, hin, hres⟩
  · have hdr : t.draw = (t.target % 256, { t with target := t.target / 256, waits := t.waits - 1 }) := by unfold B2.draw; rw [if_neg h0]
    cases hb : t.bad with
    | true =>
      rw [hdr]
      exact .inl ⟨hb, ansM_bad hb⟩
    | false =>
      obtain ⟨hd, r, hr⟩ := not_bad hb
      have hwl := hw (by omega) hb
      have hx : (UInt8.ofNat (t.target % 256)).toNat = t.target % 256 := by simp
      obtain ⟨n, hn⟩ : ∃ n, t.waits = n + 1 := ⟨t.waits - 1, by omega⟩
      obtain ⟨v, hv⟩ : ∃ v : B2, v = { t with target := t.target / 256, waits := n, left := t.left - 1, told := wr32 (t.told + 1), ahead := t.target % 256 } := ⟨_, rfl⟩
      have hbn : v.bad = false := by rw [hv]; exact bad_some (r := r) hd hr
      have hvo : v.opn = false := by rw [hv]; exact ho
      have hin : B2In size v (out ++ [UInt8.ofNat (t.target % 256)]) := by
        rw [hv]
        exact ⟨by show wr32 (t.told + 1) = _; rw [hlen]; exact hto, by show t.left - 1 = _; rw [hlen]; omega, by rw [hlen]; omega, fun _ => ⟨ho, by show n ≤ t.left - 1; omega⟩⟩
      have hres : ansB size v (out ++ [UInt8.ofNat (t.target % 256)]) = ansM size t out := by
        rw [ansM_wait hb (by omega), hn, leB_succ]
        unfold ansB
        rw [if_neg (by rw [hbn]; simp), if_neg (by rw [hvo]; simp)]
        cases n with
        | zero =>
          rw [ansM_go hbn (by rw [hv]), hv]
          rfl
        | succ n =>
          rw [ansM_wait hbn (by rw [hv]; exact Nat.succ_pos n), hv]
          show goR size (t.src 0) t.k ((out ++ [UInt8.ofNat (t.target % 256)]) ++ leB (t.target / 256) (n + 1)) (lastB (t.target % 256) (t.target / 256) (n + 1)) = _
          rw [List.append_assoc]
          rfl
      rw [hdr, hn, Nat.add_sub_cancel]
      rw [hv] at hin hres
      exact .inr ⟨bad_some (r := r) hd hr, _, hx.symm, hin, hres⟩

/-- One byte told, or none. -/
theorem next_ans (h : B2In size s out) :
    match s.next with
    | (none, s') => ansB size s out = if s'.fin = true then some out else none
    | (some x, s') => ∃ b : UInt8, x = b.toNat ∧ B2In size s' (out ++ [b]) ∧ ansB size s' (out ++ [b]) = ansB size s out := by
  have hlf := h.left
  have hle := h.le
  unfold B2.next
  by_cases hl : s.left = 0
  · rw [if_pos hl]
    show ansB size s out = _
    have hw : s.waits = 0 := by
      rcases Nat.eq_zero_or_pos s.waits with e | e
      · exact e
      · have := (h.wait e).2; omega
    have hz : out.length = size := by omega
    unfold ansB
    cases hb : s.bad with
    | true =>
      rw [if_pos rfl]
      have : s.fin = false := by
        unfold B2.bad at hb
        unfold B2.fin
        cases hd : s.dead with
        | true => simp
        | false =>
          rw [hd] at hb
          cases hdd : s.d with
          | none => simp [end2]
          | some r => rw [hdd] at hb; cases hb
      rw [this]
      rfl
    | false =>
      obtain ⟨hd, r, hr⟩ := not_bad hb
      rw [if_neg (by simp), if_neg (fun hh => hh.2 hz), ansM_go hb hw]
      have hf : s.fin = ((s.src 0).isEmpty && s.k.ends) := by
        unfold B2.fin K2.ends B2.k
        rw [hl, hd]
        simp [Bool.and_assoc]
      rw [hf]
      cases hs : s.src 0 with
      | nil =>
        unfold goR
        rw [if_pos (by omega)]
        rfl
      | cons b m =>
        unfold goR
        rw [if_pos (by omega)]
        rfl
  · rw [if_neg hl]
    obtain ⟨k1, k2, k3, k4⟩ := open_keep h hl
    have hd := draw_ans (size := size) (t := s.open_) (out := out) (k1.trans h.told) (k2.trans hlf) hle k3 (fun h1 h2 => by rw [k2]; exact k4 h1 h2) (by rw [k2]; exact hl)
    rw [open_ans h hl] at hd
    rcases hd with ⟨hb, hd⟩ | ⟨hb, hd⟩
    · rw [if_pos hb]
      show ansB size s out = _
      have hf : s.open_.draw.2.fin = false := by
        unfold B2.fin
        have e : s.open_.draw.2.left = s.left := by
          rw [← k2]
          unfold B2.draw
          split
          · exact (read_keep 0 s.open_).2.1
          · rfl
        have : (s.open_.draw.2.left == 0) = false := by rw [e]; simp [hl]
        rw [this]
        rfl
      rw [hd, hf]
      rfl
    · rw [if_neg (by rw [hb]; simp)]
      exact hd
end
end Go.Proofs.Ytdnkoeafnnohnaa

/-
  The program's Decode: what it takes from each byte told, and its feeds.
-/
namespace Go.Proofs.Ytdnkoeafnnohnaa
open Go.RowKit

section
variable {s : B2}
theorem read_src {k i : Nat} (h : i ≠ k) : (s.read k).2.src i = s.src i := by
  unfold B2.read
  split
  · rfl
  · split
    · rfl
    · exact if_neg h
theorem many_src {k i : Nat} (h : i ≠ k) : ∀ j, (B2.many k j (0, s)).2.src i = s.src i
  | 0 => rfl
  | j + 1 => (read_src h).trans (many_src h j)
theorem draw_good (h : s.draw.2.bad = false) : s.bad = false ∧ s.draw.2.mu + 1 = s.mu := by
  by_cases h0 : s.waits = 0
  · have hdr : s.draw = ((s.read 0).1, { (s.read 0).2 with num := ((mark s.ahead (s.read 0).1).getD 0), opn := (mark s.ahead (s.read 0).1).isSome }) := by unfold B2.draw; rw [if_pos h0]
    rw [hdr] at h ⊢
    have h' : (s.read 0).2.bad = false := h
    obtain ⟨x, t, hb, hs, hr⟩ := read_good h'
    refine ⟨hb, ?_⟩
    rw [hr]
    show ((if 0 = 0 then t else s.src 0)).length + ((if 1 = 0 then t else s.src 1)).length + ((if 2 = 0 then t else s.src 2)).length + s.waits + 1 = s.mu
    unfold B2.mu
    rw [hs]
    simp
    omega
  · have hdr : s.draw = (s.target % 256, { s with target := s.target / 256, waits := s.waits - 1 }) := by unfold B2.draw; rw [if_neg h0]
    rw [hdr] at h ⊢
    refine ⟨h, ?_⟩
    show (s.src 0).length + (s.src 1).length + (s.src 2).length + (s.waits - 1) + 1 = s.mu
    unfold B2.mu
    omega
theorem dec_good (hw : s.waits = 0) (h : s.dec.bad = false) : s.dec.mu ≤ s.mu := by
  unfold B2.dec at h ⊢
  split at h
  · rename_i hb
    have : s.shut.bad = s.bad := rfl
    rw [this, hb] at h
    cases h
  · rename_i hb
    rw [if_neg hb]
    split at h
    · rename_i h0
      rw [if_pos h0]
      exact Nat.le_refl _
    · rename_i h0
      rw [if_neg h0]
      split at h
      · rw [bad_dead rfl] at h; cases h
      · rename_i h4
        rw [if_neg h4]
        rw [put4_bad] at h
        have hk := many_len (s := s.shut.bit.2) (k := s.shut.bit.2.strm) 4 h
        have hm : (B2.put4 s.shut.bit.2.place).mu = (s.shut.bit.2.place.2.src 0).length + (s.shut.bit.2.place.2.src 1).length + (s.shut.bit.2.place.2.src 2).length + 4 := by
          unfold B2.mu
          rw [put4_src, put4_waits]
        rw [hm]
        unfold B2.place
        unfold B2.mu
        have e0 : s.shut.bit.2.src = s.src := rfl
        have hst : s.shut.bit.2.strm = 1 ∨ s.shut.bit.2.strm = 2 := by
          unfold B2.strm
          split
          · exact .inl rfl
          · exact .inr rfl
        rcases hst with e | e
        · rw [e] at hk ⊢
          rw [many_src (i := 0) (by decide), many_src (i := 2) (by decide)]
          rw [e0] at hk ⊢
          omega
        · rw [e] at hk ⊢
          rw [many_src (i := 0) (by decide), many_src (i := 1) (by decide)]
          rw [e0] at hk ⊢
          omega
theorem next_mu {x : Nat} {s' : B2} (hw : s.opn = true → s.waits = 0) (h : s.next = (some x, s')) : s'.mu + 1 ≤ s.mu := by
  unfold B2.next at h
  split at h
  · cases h
  · split at h
    · cases h
    · rename_i hb
      have hb' : s.open_.draw.2.bad = false := by simpa using hb
      obtain ⟨h1, h2⟩ := draw_good hb'
      injection h with _ h
      rw [← h]
      show s.open_.draw.2.mu + 1 ≤ s.mu
      rw [h2]
      unfold B2.open_ at h1 ⊢
      by_cases ho : s.opn = true
      · rw [if_pos ho] at h1 ⊢
        exact dec_good (hw ho) h1
      · rw [if_neg ho]
        exact Nat.le_refl _
theorem B2In.shut {size : Nat} {out : List UInt8} (h : B2In size s out) : s.opn = true → s.waits = 0 := fun ho => by
  rcases Nat.eq_zero_or_pos s.waits with e | e
  · exact e
  · have := (h.wait e).1; rw [ho] at this; cases this
end
theorem new_in (bs : Nat → List UInt8) (n : Nat) : B2In n (B2.new bs n) [] := ⟨rfl, rfl, Nat.zero_le _, fun h => absurd h (Nat.lt_irrefl 0)⟩
theorem new_ans (bs : Nat → List UInt8) (n : Nat) : ansB n (B2.new bs n) [] = goR n (bs 0) ⟨bs 1, bs 2, started (bs 3), List.replicate 258 1024⟩ [] 0 := by
  unfold ansB
  cases hb : (B2.new bs n).bad with
  | true =>
    rw [if_pos rfl]
    have hd : started (bs 3) = none := by
      unfold B2.bad at hb
      have e1 : (B2.new bs n).dead = false := rfl
      have e2 : (B2.new bs n).d = started (bs 3) := rfl
      rw [e1, e2] at hb
      cases h : started (bs 3) with
      | none => rfl
      | some r => rw [h] at hb; cases hb
    exact (goR_bad hd).symm
  | false =>
    rw [if_neg (by simp), if_neg (fun h => by cases h.1)]
    exact ansM_go hb rfl
theorem new_mu (bs : Nat → List UInt8) (n : Nat) : (B2.new bs n).mu = (bs 0).length + (bs 1).length + (bs 2).length := rfl

def sel4 {α : Type} (a b c d : α) : Nat → α
  | 0 => a
  | 1 => b
  | 2 => c
  | _ => d
/-- four feeds, one made behind the other -/
structure Fds (W : World) (l : Nat → List UInt8) (f lo : Nat → Nat) : Prop where
  feed : ∀ k, k < 4 → Feed W (f k) (lo k) (l k) 0
  ord : f 0 < lo 1 ∧ f 1 < lo 2 ∧ f 2 < lo 3
theorem Fds.le {W : World} {l : Nat → List UInt8} {f lo : Nat → Nat} (h : Fds W l f lo) : ∀ k, k < 4 → lo k ≤ f k := fun k hk => (h.feed k hk).lo
theorem Fds.dis {W : World} {l : Nat → List UInt8} {f lo : Nat → Nat} (h : Fds W l f lo) : ∀ k m, k < 4 → m < 4 → k ≠ m → ∀ i, (fdSc (f k) (lo k)).hold i → ¬ (fdSc (f m) (lo m)).hold i := by
  have h0 := h.le 0 (by decide)
  have h1 := h.le 1 (by decide)
  have h2 := h.le 2 (by decide)
  have h3 := h.le 3 (by decide)
  obtain ⟨a, b, c⟩ := h.ord
  intro k m hk hm hne i hi hj
  have hi : lo k ≤ i ∧ i ≤ f k := hi
  have hj : lo m ≤ i ∧ i ≤ f m := hj
  have ek : k = 0 ∨ k = 1 ∨ k = 2 ∨ k = 3 := by omega
  have em : m = 0 ∨ m = 1 ∨ m = 2 ∨ m = 3 := by omega
  rcases ek with rfl | rfl | rfl | rfl <;> rcases em with rfl | rfl | rfl | rfl <;> omega

set_option maxHeartbeats 2000000 in
theorem b2make_any {W : World} {l : Nat → List UInt8} {f0 f1 f2 f3 l0 l1 l2 l3 : Nat} {size : Int} (h : Fds W l (sel4 f0 f1 f2 f3) (sel4 l0 l1 l2 l3)) (hsz : size < 9223372036854775808) :
    Calls Try.prog 15 #[.iface 37 (.pointer (some ⟨f0, 0, none⟩)), .iface 37 (.pointer (some ⟨f1, 0, none⟩)), .iface 37 (.pointer (some ⟨f2, 0, none⟩)), .iface 37 (.pointer (some ⟨f3, 0, none⟩)), .int .i64 size] W fun e w' =>
      e = .returned (.pointer (some ⟨W.heap.size, 0, none⟩)) ∧ ∃ g, Fl w' W.heap.size g (fun k => fdSc (sel4 f0 f1 f2 f3 k) (sel4 l0 l1 l2 l3 k)) l (B2.new l size.toNat) ∧ W.heap.size < g ∧ Only (fun i => i = f3) W w' :=
  b2new_any (S := fun k => fdSc (sel4 f0 f1 f2 f3 k) (sel4 l0 l1 l2 l3 k)) (fun k hk => fd_ok (h.le k hk)) h.dis (fun k hk => h.feed k hk) hsz
end Go.Proofs.Ytdnkoeafnnohnaa
