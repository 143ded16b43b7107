/-
  Arith, Info, SrcFeed: put together.
-/
import Derived.WalkKit
import Derived.Laws.BitsAllLaws
import Derived.Laws.BitsLemmas
import Derived.Test.YtjgdjobhhdhfjaaPa01
import Derived.Test.YtjgdjobhhdhfjaaRows
import Derived.Tactics
import Derived.Tactics2
import Derived.Laws.Pointers
import Derived.RegionTactic
import Derived.RegionCalls
import Derived.BigQuiet
import Derived.Lib.SliceRun
set_option linter.unusedVariables false
set_option linter.unusedSimpArgs false
/-
  Arithmetic of fixed width as the walk writes it: shifts, or, and, and sums that do not wrap.
-/
namespace Go.Proofs.Ytjgdjobhhdhfjaa
open Go.RowKit

theorem u64_in (x : Nat) (h : x < 18446744073709551616) : IntKind.u64.wrap (x : Int) = (x : Int) := by
  rw [IntKind.wrap_u64]; omega
theorem u64_of (x : Int) (h0 : 0 ≤ x) (h : x < 18446744073709551616) : IntKind.u64.wrap x = x := by
  rw [IntKind.wrap_u64]; omega
theorem cast_pow2 (k : Nat) : ((2 : Int) ^ k) = ((2 ^ k : Nat) : Int) := by
  rw [Int.natCast_pow]; rfl

/-- a byte shifted to its place, or-ed onto the lesser ones -/
theorem or_step (v x k : Nat) (hv : v < 256 ^ k) (hx : x < 256) (hk : k < 8) :
    bits .or .u64 (v : Int) (IntKind.u64.wrap (IntKind.u64.wrap (x : Int) * 2 ^ (8 * k))) = ((v + x * 256 ^ k : Nat) : Int) := by
  have h256 : (256 : Nat) ^ k ≤ 256 ^ 7 := Nat.pow_le_pow_right (by omega) (by omega)
  have hp : x * 256 ^ k ≤ 255 * 256 ^ k := Nat.mul_le_mul_right _ (by omega)
  have hlt : x * 256 ^ k < 18446744073709551616 := by omega
  rw [u64_in x (by omega), cast_pow2, ← pow256, ← Int.natCast_mul, u64_in _ hlt, u64_or_nat _ _ (by omega) hlt]
  congr 1
  rw [Nat.or_comm, nat_join (8 * k) (x * 256 ^ k) v (by rw [pow256]; exact Nat.mul_mod_left _ _) (by rw [← pow256]; exact hv)]
  omega

theorem sum_step (v x k : Nat) (hv : v < 256 ^ k) (hx : x < 256) (hk : k < 8) :
    IntKind.u64.wrap ((v : Int) + IntKind.u64.wrap (IntKind.u64.wrap (x : Int) * 256 ^ k)) = ((v + x * 256 ^ k : Nat) : Int) := by
  have h256 : (256 : Nat) ^ k ≤ 256 ^ 7 := Nat.pow_le_pow_right (by omega) (by omega)
  have hp : x * 256 ^ k ≤ 255 * 256 ^ k := Nat.mul_le_mul_right _ (by omega)
  have e : ((256 : Int) ^ k) = ((256 ^ k : Nat) : Int) := by rw [Int.natCast_pow]; rfl
  rw [u64_in x (by omega), e, ← Int.natCast_mul, u64_in _ (by omega), ← Int.natCast_add, u64_in _ (by omega)]

theorem xor255 : ∀ x : Fin 256, 255 ^^^ x.val = 255 - x.val := by decide +kernel
theorem not_u8 (x : Nat) (hx : x < 256) : bits .xor .u8 IntKind.u8.max (x : Int) = ((255 - x : Nat) : Int) := by
  have h := u8_xor_nat 255 x (by omega) hx
  rw [xor255 ⟨x, hx⟩] at h
  exact h

theorem and_low : ∀ (f : Fin 256) (q : Fin 9), f.val &&& (127 / 2 ^ q.val) = f.val % 2 ^ (7 - q.val) := by decide +kernel
theorem and_shift (f q : Nat) (hf : f < 256) (hq : q ≤ 8) : bits .and .u8 (f : Int) (127 / 2 ^ q) = ((f % 2 ^ (7 - q) : Nat) : Int) := by
  have e : (127 / 2 ^ q : Int) = ((127 / 2 ^ q : Nat) : Int) := by rw [cast_pow2]; exact (Int.natCast_ediv 127 (2 ^ q)).symm
  have hl : 127 / 2 ^ q ≤ 127 := Nat.div_le_self _ _
  rw [e, u8_and_nat f (127 / 2 ^ q) hf (by omega)]
  congr 1
  exact and_low ⟨f, hf⟩ ⟨q, by omega⟩
theorem num_step (f q v : Nat) (hf : f < 256) (hq : q ≤ 8) (hv : v < 256 ^ q) :
    bits .or .u64 (IntKind.u64.wrap (IntKind.u64.wrap (bits .and .u8 (f : Int) (127 / 2 ^ q)) * 2 ^ (8 * q))) (v : Int) = ((f % 2 ^ (7 - q) * 256 ^ q + v : Nat) : Int) := by
  have hx : f % 2 ^ (7 - q) * 256 ^ q + v < 18446744073709551616 := by
    have : q = 0 ∨ q = 1 ∨ q = 2 ∨ q = 3 ∨ q = 4 ∨ q = 5 ∨ q = 6 ∨ q = 7 ∨ q = 8 := by omega
    rcases this with rfl | rfl | rfl | rfl | rfl | rfl | rfl | rfl | rfl <;> simp at hv ⊢ <;> omega
  have h1 : f % 2 ^ (7 - q) < 256 := by have := Nat.mod_le f (2 ^ (7 - q)); omega
  rw [and_shift f q hf hq, u64_in _ (by omega), cast_pow2, ← pow256, ← Int.natCast_mul, u64_in _ (by omega), u64_or_nat _ _ (by omega) (by omega)]
  congr 1
  exact nat_join (8 * q) (f % 2 ^ (7 - q) * 256 ^ q) v (by rw [pow256]; exact Nat.mul_mod_left _ _) (by rw [← pow256]; exact hv)

theorem put_byte (v k : Nat) : ((v : Int) / 2 ^ (8 * k) % 256) = (((UInt8.ofNat (v / 256 ^ k % 256)).toNat : Nat) : Int) := by
  have hb : (UInt8.ofNat (v / 256 ^ k % 256)).toNat = v / 256 ^ k % 256 := by simp
  rw [hb, cast_pow2, ← pow256]
  omega

theorem first_nat : ∀ j : Fin 9, 255 - 255 / 2 ^ j.val = 256 - 2 ^ (8 - j.val) ∧ (256 - 2 ^ (8 - j.val)) % 2 ^ (7 - j.val) = 0 ∧ 256 - 2 ^ (8 - j.val) + 2 ^ (7 - j.val) ≤ 256 := by decide +kernel
/-- the first byte of the shortest short number -/
theorem first_byte (v j : Nat) (hv : v < 18446744073709551616) (h : IsFol v j) :
    bits .or .u8 (bits .xor .u8 IntKind.u8.max (255 / 2 ^ j)) ((v : Int) / 2 ^ (8 * j) % 256) = (((UInt8.ofNat (256 - 2 ^ (8 - j) + v / 256 ^ j)).toNat : Nat) : Int) := by
  have hj := h.le
  have ht := (h.top hv).1
  obtain ⟨h1, h2, h3⟩ := first_nat ⟨j, by omega⟩
  simp only at h1 h2 h3
  have e : (255 / 2 ^ j : Int) = ((255 / 2 ^ j : Nat) : Int) := by rw [cast_pow2]; exact (Int.natCast_ediv 255 (2 ^ j)).symm
  have hl : 255 / 2 ^ j ≤ 255 := Nat.div_le_self _ _
  have e2 : ((v : Int) / 2 ^ (8 * j) % 256) = ((v / 256 ^ j : Nat) : Int) := by
    have e3 : (v : Int) / ((256 ^ j : Nat) : Int) = ((v / 256 ^ j : Nat) : Int) := (Int.natCast_ediv v (256 ^ j)).symm
    rw [cast_pow2, ← pow256, e3]
    have : v / 256 ^ j < 256 := by omega
    generalize v / 256 ^ j = y at this ⊢
    omega
  rw [e, not_u8 _ (by omega), e2, u8_or_nat _ _ (by omega) (by omega), h1, nat_join (7 - j) _ _ h2 ht]
  congr 1
  rw [UInt8.toNat_ofNat']
  omega

theorem shr128 : ∀ t : Fin 8, 128 / 2 ^ t.val = 2 ^ (7 - t.val) ∧ 2 ^ (7 - t.val) < 2 ^ (8 - t.val) ∧ 2 ^ (8 - t.val) ∣ 256 := by decide +kernel
/-- a bit that was 0, and what is behind it, set -/
theorem or_bit (old t : Nat) (ho : old < 256) (ht : t < 8) (hl : old % 2 ^ (8 - t) = 0) : bits .or .u8 (old : Int) (128 / 2 ^ t) = (((UInt8.ofNat (old + 2 ^ (7 - t))).toNat : Nat) : Int) := by
  obtain ⟨h1, h2, h3⟩ := shr128 ⟨t, ht⟩
  simp only at h1 h2 h3
  have e : (128 / 2 ^ t : Int) = ((128 / 2 ^ t : Nat) : Int) := by rw [cast_pow2]; exact (Int.natCast_ediv 128 (2 ^ t)).symm
  have hle : (2 : Nat) ^ (7 - t) ≤ 128 := Nat.pow_le_pow_right (n := 2) (by omega) (show 7 - t ≤ 7 by omega)
  rw [e, h1, u8_or_nat old _ ho (by omega), nat_join (8 - t) old _ hl h2]
  obtain ⟨q, hq⟩ := h3
  obtain ⟨p, hp⟩ := Nat.dvd_of_mod_eq_zero hl
  have hpos : 0 < 2 ^ (8 - t) := Nat.two_pow_pos _
  have hpq : p < q := by
    rcases Nat.lt_or_ge p q with h | h
    · exact h
    · have := Nat.mul_le_mul_left (2 ^ (8 - t)) h
      omega
  have : 2 ^ (8 - t) * (p + 1) ≤ 2 ^ (8 - t) * q := Nat.mul_le_mul_left _ hpq
  rw [Nat.mul_add] at this
  have hlt : old + 2 ^ (7 - t) < 256 := by omega
  congr 1
  rw [UInt8.toNat_ofNat']
  exact (Nat.mod_eq_of_lt hlt).symm

/-- a bit of a byte, as the text asks it -/
theorem bit_test (x t : Nat) (hx : x < 256) (ht : t < 8) : ∃ dd y : Nat, (128 : Int) / 2 ^ t = (dd : Int) ∧ 1 ≤ dd ∧ dd ≤ 128 ∧ (x : Int) / (dd : Int) = (y : Int) ∧ y ≤ 255 ∧ ((y : Int) % 2 == 1) = (x / 2 ^ (7 - t) % 2 == 1) ∧ ((y : Int).tmod 2 == 1) = (x / 2 ^ (7 - t) % 2 == 1) := by
  obtain ⟨h1, h2, h3⟩ := shr128 ⟨t, ht⟩
  simp only at h1 h2 h3
  have hl := Nat.div_le_self x (2 ^ (7 - t))
  have e : (x : Int) / ((2 ^ (7 - t) : Nat) : Int) = ((x / 2 ^ (7 - t) : Nat) : Int) := (Int.natCast_ediv x (2 ^ (7 - t))).symm
  refine ⟨2 ^ (7 - t), x / 2 ^ (7 - t), ?_, Nat.two_pow_pos _, Nat.pow_le_pow_right (n := 2) (by omega) (show 7 - t ≤ 7 by omega), e, by omega, ?_, ?_⟩
  · rw [cast_pow2, ← h1]; exact (Int.natCast_ediv 128 (2 ^ t)).symm
  · generalize x / 2 ^ (7 - t) = y
    rw [Bool.eq_iff_iff]
    simp
    omega
  · generalize x / 2 ^ (7 - t) = y
    rw [Int.tmod_eq_emod_of_nonneg (by omega), Bool.eq_iff_iff]
    simp
    omega

end Go.Proofs.Ytjgdjobhhdhfjaa

/-
  What a type's facts say, in parts.
-/
namespace Go.Proofs.Ytjgdjobhhdhfjaa
open Go.RowKit

theorem info_parts {P : Program} {t : TypeId} {z : Value} {s b : Nat} (h : (P.info? t).map (fun i => (i.zero, i.size, i.bytes)) = some (some z, s, b)) : ∃ i, P.info? t = some i ∧ i.zero = some z ∧ i.size = s ∧ i.bytes = b := by
  cases hi : P.info? t with
  | none => rw [hi] at h; cases h
  | some i =>
    rw [hi] at h
    simp only [Option.map_some, Option.some.injEq, Prod.mk.injEq] at h
    exact ⟨i, rfl, h.1, h.2.1, h.2.2⟩
theorem info_u8 : (Try.prog.info? 5).map (fun i => (i.zero, i.size, i.bytes)) = some (some (.int .u8 0), 1, 1) := by kernel_rfl

end Go.Proofs.Ytjgdjobhhdhfjaa

/-
  A feed: made of bytes, it gives each once, in order. Its row lies from block lo on, ahead of its own block.
-/
namespace Go.Proofs.Ytjgdjobhhdhfjaa
open Go.RowKit

set_option maxRecDepth 100000 in
set_option maxHeartbeats 2000000 in
theorem clone_any {A : Option Addr} {n c : Nat} {bs : List UInt8} {w : World} (hS : Sl w A n (bv bs)) (hm : n ≤ 1000000000) :
    Calls Try.prog 42 #[.slice A n c] w fun e w' =>
      ∃ A' c', e = .returned (.slice A' n c') ∧ w'.ownsRow w.heap.size 5 1 (.slice A' n c') n (bv bs) ∧ Below w.heap.size w w' := by
  obtain ⟨i, hi, hz0, hz1, hz2⟩ := info_parts info_u8
  have hq := fun (w : World) (A : Option Addr) (n c : Nat) => Lib.run_eql_slice_nil (P := Try.prog) w 22 5 A n c 0 0 Try.underlying22
  go_enter Try.func42, Try.ntmps42
  go_wp2_with (at_builtin; refine wpList_app _ rfl (.tmp 5) (.tmp 6) 22 rfl w.heap.size 5 i _ 1 Try.underlying22 hi hz0 hz1 hz2 rfl _ 0 [] rfl (own_empty w (Nat.le_refl _) _) A n c (bv bs) rfl (hS.alloc _) (bv_one bs) (by omega) (by omega) (by simp) ?_)
  · go_ret
    rename_i hA
    have hA' : A = none := by simpa using hA
    have hn : n = 0 := by
      rcases Nat.eq_zero_or_pos n with h | h
      · exact h
      · obtain ⟨_, _, e, _⟩ := hS.2 h
        rw [hA'] at e; cases e
    subst hn
    have hb : bv bs = [] := List.eq_nil_of_length_eq_zero hS.1
    rw [hb]
    exact ⟨none, 0, rfl, World.ownsRow_nil w _ _ 1, Below.refl _ _⟩
  · intro A' c' w' ho hg
    have HO := Lib.hid ho
    have HG := Lib.hid hg
    clear ho hg
    go_wp2
    go_ret
    have ho := HO.out
    simp only [] at ho ⊢
    refine ⟨A', c', rfl, ho, ?_⟩
    exact ((Below.refl _ _).alloc (Nat.le_refl _) _).trans (below_of_only HG.out (Nat.le_refl _) (by simp))

/-- At block g stands a feed over the bytes bs, whose row lies from block lo on and ahead of g; k were given. -/
def Feed (w : World) (g lo : Nat) (bs : List UInt8) (k : Nat) : Prop :=
  ∃ A c, Blk w g 93 #[.slice A bs.length c, .int .i64 (k : Int)] ∧ Sl w A bs.length (bv bs) ∧ bs.length ≤ c ∧ c ≤ maxLen ∧ k ≤ bs.length ∧ lo ≤ g ∧ (0 < bs.length → ∀ b o, A = some ⟨b, o, none⟩ → lo ≤ b ∧ b < g)

theorem Feed.lt {w : World} {g lo : Nat} {bs : List UInt8} {k : Nat} (h : Feed w g lo bs k) : g < w.heap.size := by
  obtain ⟨_, _, hB, _⟩ := h
  exact hB.lt
theorem Feed.le {w : World} {g lo : Nat} {bs : List UInt8} {k : Nat} (h : Feed w g lo bs k) : k ≤ bs.length := by
  obtain ⟨_, _, _, _, _, _, h, _⟩ := h
  exact h
theorem Feed.lo {w : World} {g lo : Nat} {bs : List UInt8} {k : Nat} (h : Feed w g lo bs k) : lo ≤ g := by
  obtain ⟨_, _, _, _, _, _, _, h, _⟩ := h
  exact h
theorem Feed.drewN {w : World} {g lo : Nat} {bs : List UInt8} {k : Nat} (h : Feed w g lo bs k) (n : Nat) : Feed (w.drewN n) g lo bs k := h
theorem Feed.only {S : Nat → Prop} {w w' : World} {g lo : Nat} {bs : List UInt8} {k : Nat} (h : Feed w g lo bs k) (hb : Only S w w') (hS : ∀ i, S i → i < lo ∨ g < i) : Feed w' g lo bs k := by
  obtain ⟨A, c, hB, hs, h1, h2, h3, h4, h5⟩ := h
  refine ⟨A, c, hB.only hb (fun h => ?_), hs.only hb (fun hn b o e h => ?_), h1, h2, h3, h4, h5⟩
  · have := hS g h; omega
  · have := hS b h
    have := h5 hn b o e
    omega

set_option maxHeartbeats 400000 in
theorem newFeed_any {A : Option Addr} {n c : Nat} {bs : List UInt8} {w : World} (hS : Sl w A n (bv bs)) (hm : n ≤ 1000000000) :
    Calls Try.prog 13 #[.slice A n c] w fun e w' =>
      ∃ g, e = .returned (.pointer (some ⟨g, 0, none⟩)) ∧ w.heap.size ≤ g ∧ Feed w' g w.heap.size bs 0 ∧ Below w.heap.size w w' := by
  go_enter Try.func13, Try.ntmps13
  go_wp2_with (go_at_call 42; refine (clone_any hS hm).mono ?_; rintro e w' ⟨A', c', rfl, ho, hb⟩; have HO := Lib.hid ho; have HB := Lib.hid hb; clear ho hb)
  go_ret
  have hl : n = bs.length := by rw [← hS.1, bv_length]
  subst hl
  obtain ⟨h1, h2, h3, h4⟩ := own_facts HO.out
  exact ⟨_, rfl, HB.out.size, ⟨A', c', Blk.fresh _ _ _, h1.alloc _, h2, h3, by omega, HB.out.size, fun _ b o e => h4 b o e⟩, HB.out.alloc HB.out.size _⟩

set_option maxHeartbeats 400000 in
theorem feed_end {g lo : Nat} {bs : List UInt8} {w : World} (h : Feed w g lo bs bs.length) :
    Calls Try.prog 154 #[.pointer (some ⟨g, 0, none⟩)] w fun e w' => e = .returned (.tuple #[.int .u8 0, .bool false]) ∧ ∃ d, w.drewN d = w' := by
  obtain ⟨A, c, hB, hS, h1, h2, h3, h4, h5⟩ := h
  unfold maxLen at h2
  have c0 : w.cell? ⟨g, 0, none⟩ = some (.slice A bs.length c) := hB.cell 0
  have c1 : w.cell? ⟨g, 1, none⟩ = some (.int .i64 (bs.length : Int)) := hB.cell 1
  clear hB hS h4 h5
  go_enter Try.func154, Try.ntmps154
  go_wp2
  go_quiet (fail)
  go_wp2
  go_ret2
  exact ⟨rfl, _, rfl⟩

set_option maxHeartbeats 400000 in
theorem feed_more {g lo : Nat} {bs : List UInt8} {k : Nat} {w : World} (h : Feed w g lo bs k) (hk : k < bs.length) :
    Calls Try.prog 154 #[.pointer (some ⟨g, 0, none⟩)] w fun e w' => e = .returned (.tuple #[.int .u8 ((bs.getD k 0).toNat : Int), .bool true]) ∧ Feed w' g lo bs (k + 1) ∧ w.grownBy w' (some g) := by
  obtain ⟨A, c, hB, hS, h1, h2, h3, h4, h5⟩ := h
  have hm := h2
  unfold maxLen at hm
  obtain ⟨b, o, rfl, hlt, hc⟩ := hS.2 (by omega)
  have hbg : b ≠ g := by have := (h5 (by omega) b o rfl).2; omega
  have c0 : w.cell? ⟨g, 0, none⟩ = some (.slice (some ⟨b, o, none⟩) bs.length c) := hB.cell 0
  have c1 : w.cell? ⟨g, 1, none⟩ = some (.int .i64 (k : Int)) := hB.cell 1
  have f1 : w.frozen? ⟨g, 1, none⟩ = false := hB.free 1
  have cx : w.cell? ⟨b, o + k, none⟩ = some (.int .u8 ((bs.getD k 0).toNat : Int)) := by rw [hc k hk, bv_get _ _ hk]
  generalize bs.getD k 0 = x at cx
  have hne : ((k : Int) == (bs.length : Int)) = false := by simp; omega
  have HB := Lib.hid hB
  have HS := Lib.hid hS
  have H5 := Lib.hid h5
  generalize hn : bs.length = n at *
  have HN := Lib.hid hn
  clear hB hS h5 hc hn
  go_enter Try.func154, Try.ntmps154
  go_wp2
  go_quiet (fail)
  go_wp2
  go_quiet (fail)
  go_wp2
  go_ret2
  refine ⟨rfl, ?_, ?_⟩
  · have hn := HN.out
    subst hn
    refine ⟨some ⟨b, o, none⟩, c, ?_, ?_, h1, h2, by omega, h4, H5.out⟩
    · exact (HB.out.drewN _).put 1 _
    · exact (HS.out.drewN _).grown (only_setCell (World.grownBy.refl _ _) (.inl rfl) _) (fun hn b' o' e => Nat.ne_of_lt (H5.out hn b' o' e).2)
  · exact only_of_drewN (only_setCell (World.grownBy.refl _ _) (.inl rfl) _)
end Go.Proofs.Ytjgdjobhhdhfjaa
