/-
  B2CodM, B2Step, B2Stp: put together.
-/
import Derived.Test.YtdnkoeafnnohnaaW05
import Derived.Test.YtdnkoeafnnohnaaW07
import Derived.Test.YtdnkoeafnnohnaaW02
import Derived.Test.YtdnkoeafnnohnaaW03
import Derived.Deep.RegionHeld3
import Derived.Deep.CutRange
import Derived.Deep.CutBlock
import Derived.Deep.RegionLaw
import Derived.BigQuiet
set_option linter.unusedVariables false
set_option linter.unusedSimpArgs false
/-
  The coder of four streams in memory.
-/
namespace Go.Proofs.Ytdnkoeafnnohnaa
open Go.RowKit

/-- the coder's cells -/
def cdc (g : Nat) (ps : List Nat) (V : Nat → Value) (i : Nat) : Value :=
  if i = 0 then .pointer (some ⟨g, 0, none⟩)
  else if i < 259 then .int .u16 ((ps.getD (i - 1) 0 : Nat) : Int)
  else V (i - 259)
def CdB (w : World) (K g : Nat) (V : Nat → Value) (ps : List Nat) : Prop :=
  ps.length = 258 ∧ ∃ cs, Blk w K 56 cs ∧ cs.size = 263 ∧ ∀ i, i < 263 → cs[i]? = some (cdc g ps V i)
def upV (V : Nat → Value) (k : Nat) (v : Value) : Nat → Value := fun i => if i = k then v else V i

section
variable {w w' : World} {K g : Nat} {V : Nat → Value} {ps : List Nat}
theorem CdB.lt (h : CdB w K g V ps) : K < w.heap.size := by obtain ⟨_, _, h, _⟩ := h; exact h.lt
theorem CdB.cell (h : CdB w K g V ps) (i : Nat) (hi : i < 263) : w.cell? ⟨K, i, none⟩ = some (cdc g ps V i) := by
  obtain ⟨_, cs, hB, _, hc⟩ := h
  rw [hB.cell i, hc i hi]
theorem CdB.free (h : CdB w K g V ps) (i : Nat) : w.frozen? ⟨K, i, none⟩ = false := by
  obtain ⟨_, cs, hB, _⟩ := h
  exact hB.free i
theorem CdB.only {T : Nat → Prop} (h : CdB w K g V ps) (hO : Only T w w') (hF : ¬ T K) : CdB w' K g V ps := by
  obtain ⟨h0, cs, hB, hz, hc⟩ := h
  exact ⟨h0, cs, hB.only hO hF, hz, hc⟩
theorem CdB.bits (h : CdB w K g V ps) : w.cell? ⟨K, 0, none⟩ = some (.pointer (some ⟨g, 0, none⟩)) := h.cell 0 (by omega)
theorem CdB.prob (h : CdB w K g V ps) {a : Nat} (ha : a < 258) : w.cell? ⟨K, 1 + a, none⟩ = some (.int .u16 ((ps.getD a 0 : Nat) : Int)) := by
  rw [h.cell (1 + a) (by omega)]; unfold cdc
  rw [if_neg (by omega), if_pos (by omega), show 1 + a - 1 = a by omega]
theorem CdB.out (h : CdB w K g V ps) {k : Nat} (hk : k < 4) : w.cell? ⟨K, 259 + k, none⟩ = some (V k) := by
  rw [h.cell (259 + k) (by omega)]; unfold cdc
  rw [if_neg (by omega), if_neg (by omega), show 259 + k - 259 = k by omega]
theorem CdB.putP (h : CdB w K g V ps) {a : Nat} (ha : a < 258) (q : Nat) : CdB (w.setCell ⟨K, 1 + a, none⟩ (.int .u16 (q : Int))) K g V (ps.set a q) := by
  obtain ⟨h0, cs, hB, hz, hc⟩ := h
  refine ⟨by rw [List.length_set]; exact h0, _, hB.put (1 + a) _, by rw [Array.size_setIfInBounds]; exact hz, fun j hj => ?_⟩
  rw [Array.getElem?_setIfInBounds]
  by_cases e : 1 + a = j
  · subst e
    rw [if_pos rfl, if_pos (by omega)]
    unfold cdc
    rw [if_neg (by omega), if_pos (by omega), show 1 + a - 1 = a by omega]
    simp [List.getD, show a < ps.length by omega]
  · rw [if_neg e, hc j hj]
    unfold cdc
    by_cases h1 : j = 0
    · simp only [if_pos h1]
    · by_cases h2 : j < 259
      · simp only [if_neg h1, if_pos h2]
        simp [List.getD, show a ≠ j - 1 by omega]
      · simp only [if_neg h1, if_neg h2]
theorem CdB.putV (h : CdB w K g V ps) {k : Nat} (hk : k < 4) (v : Value) : CdB (w.setCell ⟨K, 259 + k, none⟩ v) K g (upV V k v) ps := by
  obtain ⟨h0, cs, hB, hz, hc⟩ := h
  refine ⟨h0, _, hB.put (259 + k) _, by rw [Array.size_setIfInBounds]; exact hz, fun j hj => ?_⟩
  rw [Array.getElem?_setIfInBounds]
  by_cases e : 259 + k = j
  · subst e
    rw [if_pos rfl, if_pos (by omega)]
    unfold cdc upV
    rw [if_neg (by omega), if_neg (by omega), if_pos (by omega)]
  · rw [if_neg e, hc j hj]
    unfold cdc upV
    by_cases h1 : j = 0
    · simp only [if_pos h1]
    · by_cases h2 : j < 259
      · simp only [if_neg h1, if_pos h2]
      · simp only [if_neg h1, if_neg h2]
        rw [if_neg (by omega)]
end
theorem cd_prb (K g : Nat) (V : Nat → Value) : Prb (fun w ps => CdB w K g V ps) (fun i => i = K) (fun a => (K, 1 + a)) 258 where
  blk _ := rfl
  cell h ha := h.prob ha
  free h _ := h.free _
  put h ha q := h.putP ha q
  only h hO hS := h.only hO (hS K rfl)
  len h := h.1
  old h hi := by subst hi; exact h.lt

theorem own_onlyC {w w' : World} {S : Nat → Prop} {base : Nat} {e : TypeId} {v : Value} {n : Nat} {xs : List Value} (h : w.ownsRow base e 1 v n xs) (hO : Only S w w') (hS : ∀ b, v.ownBlock = some b → ¬ S b) : w'.ownsRow base e 1 v n xs := by
  refine ⟨h.1, ?_⟩
  rcases h.2 with hn | ⟨g, cap, cur, rfl, hb, hgg, rest⟩
  · exact .inl hn
  · have hlt : g < w.heap.size := (Array.getElem?_eq_some_iff.1 hgg).1
    exact .inr ⟨g, cap, cur, rfl, hb, (hO.block g hlt (hS g rfl)).trans hgg, rest⟩
theorem own_atC {w : World} {base : Nat} {e : TypeId} {v : Value} {n : Nat} {xs : List Value} (h : w.ownsRow base e 1 v n xs) {b : Nat} (hb : v.ownBlock = some b) : base ≤ b ∧ b < w.heap.size := by
  rcases h.2 with ⟨rfl, _⟩ | ⟨g, cap, cur, rfl, h1, h2, _⟩
  · cases hb
  · injection hb with hb
    subst hb
    exact ⟨h1, (Array.getElem?_eq_some_iff.1 h2).1⟩

/-- the coder at block K, its coder of bits at block g (bytes at block G); rows R k of Main, Call and Jump -/
structure Cd (w0 w : World) (K g : Nat) (G : Option Nat) (V : Nat → Value) (R : Nat → List UInt8) (ps : List Nat) (e : En) : Prop where
  blk : CdB w K g V ps
  pn : Pn w g G e
  en : EnOk e
  ps_ok : PsOk ps
  row : ∀ k, k < 3 → w.ownsRow w0.heap.size 5 1 (V k) (R k).length (bv (R k))
  code : V 3 = .slice none 0 0
  bel : Below w0.heap.size w0 w
  low : w0.heap.size ≤ K ∧ w0.heap.size ≤ g ∧ ∀ i, G = some i → w0.heap.size ≤ i
  kg : K ≠ g ∧ G ≠ some K
  off : ∀ k, k < 3 → ∀ q, (V k).ownBlock = some q → q ≠ K ∧ q ≠ g ∧ G ≠ some q ∧ ∀ m, m < 3 → m ≠ k → (V m).ownBlock ≠ some q

section
variable {w0 w w' : World} {K g : Nat} {G : Option Nat} {V : Nat → Value} {R : Nat → List UInt8} {ps : List Nat} {e : En}
theorem Pn.gold (h : Pn w g G e) {i : Nat} (hi : G = some i) : i < w.heap.size := by
  obtain ⟨c, hP, _⟩ := h
  exact hP.old hi
/-- new blocks are made -/
theorem Cd.below (h : Cd w0 w K g G V R ps e) (hb : Below w.heap.size w w') : Cd w0 w' K g G V R ps e :=
  have hO := Only.of_below (S := fun _ => False) hb
  have hpn : Pn w' g G e := by
    obtain ⟨c, hP, hc⟩ := h.pn
    exact ⟨c, hP.only hO (fun h => h) (fun _ _ h => h), hc⟩
  ⟨h.blk.only hO (fun h => h), hpn, h.en, h.ps_ok, fun k hk => own_onlyC (h.row k hk) hO (fun _ _ h => h), h.code, h.bel.trans (hb.mono h.bel.size), h.low, h.kg, h.off⟩
theorem Cd.drewN (h : Cd w0 w K g G V R ps e) (n : Nat) : Cd w0 (w.drewN n) K g G V R ps e :=
  have hO := (Only.refl (fun _ => False) w).drewN n
  have hpn : Pn (w.drewN n) g G e := by
    obtain ⟨c, hP, hc⟩ := h.pn
    exact ⟨c, hP.drewN n, hc⟩
  ⟨h.blk.only hO (fun h => h), hpn, h.en, h.ps_ok, fun k hk => own_onlyC (h.row k hk) hO (fun _ _ h => h), h.code, below_drewN h.bel n, h.low, h.kg, h.off⟩

/-- A row grows, and the cell that leads to it is stored. -/
theorem Cd.app {w1 w3 : World} {k : Nat} {A' : Option Addr} {c' : Nat} {x : List UInt8} (h : Cd w0 w K g G V R ps e) (hk : k < 3) (h1 : Only (fun _ => False) w w1)
    (ho : w3.ownsRow w0.heap.size 5 1 (.slice A' ((R k).length + x.length) c') ((R k).length + x.length) (bv (R k) ++ bv x)) (hg : w1.grownBy w3 (V k).ownBlock)
    (hq : (Value.slice A' ((R k).length + x.length) c').ownBlock = (V k).ownBlock ∨ (Value.slice A' ((R k).length + x.length) c').ownBlock = some w1.heap.size) :
    w3.cell? ⟨K, 259 + k, none⟩ = some (V k) ∧ w3.frozen? ⟨K, 259 + k, none⟩ = false ∧
    Cd w0 (w3.setCell ⟨K, 259 + k, none⟩ (.slice A' ((R k).length + x.length) c')) K g G (upV V k (.slice A' ((R k).length + x.length) c')) (fun i => if i = k then R k ++ x else R i) ps e := by
  have hO : Only (fun i => (V k).ownBlock = some i) w1 w3 := ⟨hg.os, hg.tape, hg.output, hg.size, fun i hi hne => hg.block i hi (fun e => hne e.symm)⟩
  have hO2 := (h1.mono (S' := fun i => (V k).ownBlock = some i) (fun _ h => h.elim)).trans hO
  have hb3 := h.blk.only hO2 (fun e => (h.off k hk K e).1 rfl)
  have hlo : ∀ i, (V k).ownBlock = some i → w0.heap.size ≤ i := fun i hi => (own_atC (h.row k hk) hi).1
  have hb0 := h.bel.trans (hO2.below h.bel.size hlo)
  have hK := h.low.1
  have hs := h1.size
  have hold : ∀ i, (Value.slice A' ((R k).length + x.length) c').ownBlock = some i → (V k).ownBlock = some i ∨ w.heap.size ≤ i := fun i hi => by
    rcases hq with e | e
    · exact .inl (e ▸ hi)
    · rw [e] at hi; injection hi with hi; exact .inr (by omega)
  refine ⟨hb3.out (by omega), hb3.free _, ?_⟩
  have hO4 := (Only.refl (fun i => i = K) w3).setCell (p := ⟨K, 259 + k, none⟩) (.inl rfl) (.slice A' ((R k).length + x.length) c')
  have hpn3 : Pn w3 g G e := by
    obtain ⟨c, hP, hc⟩ := h.pn
    exact ⟨c, hP.only hO2 (fun e => (h.off k hk g e).2.1 rfl) (fun i hi e => (h.off k hk i e).2.2.1 hi), hc⟩
  have hpn : Pn (w3.setCell ⟨K, 259 + k, none⟩ (.slice A' ((R k).length + x.length) c')) g G e := by
    obtain ⟨c, hP, hc⟩ := hpn3
    exact ⟨c, hP.only hO4 (fun e => h.kg.1 e.symm) (fun i hi e => h.kg.2 (e ▸ hi)), hc⟩
  refine ⟨hb3.putV (by omega) _, hpn, h.en, h.ps_ok, fun m hm => ?_, ?_, hb0.trans (hO4.below hb0.size (fun i hi => by omega)), h.low, h.kg, fun m hm q hq' => ?_⟩
  · by_cases e : m = k
    · subst e
      unfold upV
      rw [if_pos rfl, if_pos rfl, bv_append, List.length_append]
      refine own_onlyC ho hO4 (fun b hb hs => ?_)
      rcases hold b hb with h2 | h2
      · exact (h.off m hk b h2).1 hs
      · have := h.blk.lt; omega
    · unfold upV
      rw [if_neg e, if_neg e]
      exact own_onlyC (own_onlyC (h.row m hm) hO2 (fun b hb hs => (h.off m hm b hb).2.2.2 k hk (fun e' => e e'.symm) hs)) hO4 (fun b hb hs => (h.off m hm b hb).1 hs)
  · unfold upV
    rw [if_neg (by omega)]
    exact h.code
  · by_cases e : m = k
    · subst e
      have hq2 : (Value.slice A' ((R m).length + x.length) c').ownBlock = some q := by unfold upV at hq'; rw [if_pos rfl] at hq'; exact hq'
      have hother : ∀ m', m' < 3 → m' ≠ m → (upV V m (.slice A' ((R m).length + x.length) c') m').ownBlock = (V m').ownBlock := fun m' _ hne => by unfold upV; rw [if_neg hne]
      rcases hold q hq2 with h2 | h2
      · obtain ⟨a1, a2, a3, a4⟩ := h.off m hk q h2
        exact ⟨a1, a2, a3, fun m' hm' hne => by rw [hother m' hm' hne]; exact a4 m' hm' hne⟩
      · have b1 := h.blk.lt
        have b2 : g < w.heap.size := by obtain ⟨c, hP, _⟩ := h.pn; exact hP.lt
        refine ⟨by omega, by omega, fun e => by have := h.pn.gold e; omega, fun m' hm' hne hh => ?_⟩
        rw [hother m' hm' hne] at hh
        have := (own_atC (h.row m' hm') hh).2
        omega
    · have hq2 : (V m).ownBlock = some q := by unfold upV at hq'; rw [if_neg e] at hq'; exact hq'
      obtain ⟨a1, a2, a3, a4⟩ := h.off m hm q hq2
      refine ⟨a1, a2, a3, fun m' hm' hne hh => ?_⟩
      by_cases e' : m' = k
      · subst e'
        unfold upV at hh
        rw [if_pos rfl] at hh
        rcases hold q hh with h2 | h2
        · exact a4 m' hm' hne h2
        · have := (own_atC (h.row m hm) hq2).2
          omega
      · unfold upV at hh
        rw [if_neg e'] at hh
        exact a4 m' hm' hne hh

/-- A bit is coded. -/
theorem Cd.bit {k v : Nat} (h : Cd w0 w K g G V R ps e) (hk : k < 258) (hv : v ≤ 1) (hl : e.l ≤ 800000000) :
    Calls Try.prog 41 #[.pointer (some ⟨g, 0, none⟩), .pointer (some ⟨K, 1 + k, none⟩), .int .i64 (v : Int)] w fun x w' =>
      x = .returned (.tuple #[]) ∧ ∃ G', Cd w0 w' K g G' V R (ps.set k (upOf (ps.getD k 0) v)) (e.bit (ps.getD k 0) v) ∧ w.heap.size ≤ w'.heap.size := by
  have hoff : Off g G (fun i => i = K) := fun i hi => hi ▸ ⟨h.kg.1, h.kg.2⟩
  have hM : Cmch (fun w ps => CdB w K g V ps) g G 258 (0 + 1) w ⟨ps, e⟩ := ⟨h.pn, h.blk, ⟨h.ps_ok, h.blk.1, h.en, by show e.l + 32 * 1 ≤ _; omega⟩⟩
  refine (cw_bit (cd_prb K g V) hoff rfl hk hM hv).mono ?_
  rintro x w' ⟨rfl, G', hm, hn, ho⟩
  refine ⟨rfl, G', ?_, ho.size⟩
  have hdef : (bitP encM (⟨ps, e⟩ : Pm En) k (v : Int)).2 = ⟨ps.set k (upOf (ps.getD k 0) v), e.bit (ps.getD k 0) v⟩ := rfl
  rw [hdef] at hm
  have hg' : ∀ i, G' = some i → G = some i ∨ w.heap.size ≤ i := hn
  have hlo' : ∀ i, G' = some i → w0.heap.size ≤ i := fun i hi => by
    rcases hg' i hi with h1 | h1
    · exact h.low.2.2 i h1
    · have := h.bel.size; omega
  have hset : ∀ i, cset g G (fun i => i = K) i → i = g ∨ G = some i ∨ i = K := fun i hi => hi
  refine ⟨hm.row, hm.pn, hm.ok.x.1, hm.ok.ps, fun m hm' => own_onlyC (h.row m hm') ho (fun b hb hs => ?_), h.code, h.bel.trans (ho.below h.bel.size (fun i hi => ?_)), ⟨h.low.1, h.low.2.1, hlo'⟩, ⟨h.kg.1, fun e => ?_⟩, fun m hm' q hq => ?_⟩
  · obtain ⟨a1, a2, a3, _⟩ := h.off m hm' b hb
    rcases hset b hs with h1 | h1 | h1
    · exact a2 h1
    · exact a3 h1
    · exact a1 h1
  · rcases hset i hi with h1 | h1 | h1
    · rw [h1]; exact h.low.2.1
    · exact h.low.2.2 i h1
    · rw [h1]; exact h.low.1
  · rcases hg' K e with h1 | h1
    · exact h.kg.2 h1
    · have := h.blk.lt; omega
  · obtain ⟨a1, a2, a3, a4⟩ := h.off m hm' q hq
    refine ⟨a1, a2, fun e => ?_, a4⟩
    rcases hg' q e with h1 | h1
    · exact a3 h1
    · have := (own_atC (h.row m hm') hq).2
      omega
end
end Go.Proofs.Ytdnkoeafnnohnaa

/-
  The coder's calls: the byte ahead, the place behind, a place put, a step.
-/
namespace Go.Proofs.Ytdnkoeafnnohnaa
open Go.RowKit

section
variable {w0 w w' : World} {K g : Nat} {G : Option Nat} {V : Nat → Value} {R : Nat → List UInt8} {ps : List Nat} {e : En} {A : Option Addr} {n c i : Nat} {b : List UInt8}

set_option maxHeartbeats 2000000 in
theorem ahead_any (hS : Sl w A b.length (bv b)) (hi : i < b.length) (hn : b.length ≤ 1000000) :
    Calls Try.prog 39 #[.slice A b.length c, .int .i64 (i : Int)] w fun e w' => e = .returned (.int .u8 (ahd b i : Int)) ∧ w = w' := by
  by_cases h0 : i = 0
  · subst h0
    have ha : ahd b 0 = 0 := rfl
    rw [ha]
    clear hS hi hn ha
    show Calls Try.prog 39 #[.slice A b.length c, .int .i64 0] w _
    go_enter Try.func39, Try.ntmps39
    go_wp2_with fail
    go_ret
    exact ⟨rfl, rfl⟩
  · have ha : ahd b i = (b.getD (i - 1) 0).toNat := if_neg h0
    obtain ⟨q, o, rfl, _, hc⟩ := hS.2 (by omega)
    have cx : w.cell? ⟨q, o + (i - 1), none⟩ = some (.int .u8 ((b.getD (i - 1) 0).toNat : Int)) := by rw [hc (i - 1) (by omega), bv_get _ _ (by omega)]
    obtain ⟨j, hj⟩ : ∃ j, j = i - 1 := ⟨_, rfl⟩
    have hij : i = j + 1 := by omega
    rw [← hj] at cx ha
    rw [ha]
    have h1 : (((j + 1 : Nat) : Int) == 0) = false := by simp; omega
    have h2 : (j : Int) < (b.length : Int) := by omega
    have h3 : (0 : Int) ≤ (j : Int) := by omega
    have h4 : (j : Int) ≤ 1000000 := by omega
    rw [hij]
    generalize b.getD j 0 = x at *
    clear hS hi hc ha h0 hj hij hn
    go_enter Try.func39, Try.ntmps39
    go_wp2_with fail
    go_ret
    exact ⟨rfl, rfl⟩

/-- how a place is told -/
def pbV (b : List UInt8) (i : Nat) : Value := if 4 < b.length - i then .tuple #[.int .u32 (plc b i : Int), .bool (decide (plc b i < b.length))] else .tuple #[.int .u32 0, .bool false]
theorem le4_orN (b1 b2 b3 b4 : Nat) (h1 : b1 < 256) (h2 : b2 < 256) (h3 : b3 < 256) (h4 : b4 < 256) :
    bits .or .u32 (bits .or .u32 (bits .or .u32 (b1 : Int) ((b2 : Int) * 256)) ((b3 : Int) * 65536)) ((b4 : Int) * 16777216) = ((b1 + b2 * 256 + b3 * 65536 + b4 * 16777216 : Nat) : Int) := by
  rw [show (b2 : Int) * 256 = ((256 * b2 : Nat) : Int) by omega, show (b3 : Int) * 65536 = ((65536 * b3 : Nat) : Int) by omega, show (b4 : Int) * 16777216 = ((16777216 * b4 : Nat) : Int) by omega, u32_or_nat _ _ (by omega) (by omega), Nat.or_comm, nat_join 8 (256 * b2) b1 (by omega) (by omega), u32_or_nat _ _ (by omega) (by omega), Nat.or_comm, nat_join 16 (65536 * b3) _ (by omega) (by omega),
    u32_or_nat _ _ (by omega) (by omega), Nat.or_comm, nat_join 24 (16777216 * b4) _ (by omega) (by omega)]
  congr 1
  omega

set_option maxRecDepth 100000 in
set_option maxHeartbeats 4000000 in
theorem placeBehind_any (hS : Sl w A b.length (bv b)) (hc : b.length ≤ c) (hi : i < b.length) (hn : b.length ≤ 1000000) :
    Calls Try.prog 40 #[.slice A b.length c, .int .i64 (i : Int)] w fun e w' => e = .returned (pbV b i) ∧ ∃ d, w.drewN d = w' := by
  unfold pbV
  by_cases h4 : 4 < b.length - i
  · rw [if_pos h4]
    obtain ⟨q, o, rfl, _, hcell⟩ := hS.2 (by omega)
    have x0 : w.cell? ⟨q, o + (i + 1), none⟩ = some (.int .u8 ((b.getD (i + 1) 0).toNat : Int)) := by rw [hcell (i + 1) (by omega), bv_get _ _ (by omega)]
    have x1 : w.cell? ⟨q, o + (i + 1) + 1, none⟩ = some (.int .u8 ((b.getD (i + 2) 0).toNat : Int)) := by rw [Nat.add_assoc, hcell (i + 2) (by omega), bv_get _ _ (by omega)]
    have x2 : w.cell? ⟨q, o + (i + 1) + 2, none⟩ = some (.int .u8 ((b.getD (i + 3) 0).toNat : Int)) := by rw [Nat.add_assoc, hcell (i + 3) (by omega), bv_get _ _ (by omega)]
    have x3 : w.cell? ⟨q, o + (i + 1) + 3, none⟩ = some (.int .u8 ((b.getD (i + 4) 0).toNat : Int)) := by rw [Nat.add_assoc, hcell (i + 4) (by omega), bv_get _ _ (by omega)]
    have hpl : plc b i = ((b.getD (i + 1) 0).toNat + (b.getD (i + 2) 0).toNat * 256 + (b.getD (i + 3) 0).toNat * 65536 + (b.getD (i + 4) 0).toNat * 16777216 + i + 5) % 4294967296 := rfl
    have l1 := (b.getD (i + 1) 0).toNat_lt
    have l2 := (b.getD (i + 2) 0).toNat_lt
    have l3 := (b.getD (i + 3) 0).toNat_lt
    have l4 := (b.getD (i + 4) 0).toNat_lt
    rw [hpl]
    generalize (b.getD (i + 1) 0).toNat = b1 at *
    generalize (b.getD (i + 2) 0).toNat = b2 at *
    generalize (b.getD (i + 3) 0).toNat = b3 at *
    generalize (b.getD (i + 4) 0).toNat = b4 at *
    have hor := le4_orN b1 b2 b3 b4 (by omega) (by omega) (by omega) (by omega)
    obtain ⟨s, hs⟩ : ∃ s, s = b1 + b2 * 256 + b3 * 65536 + b4 * 16777216 := ⟨_, rfl⟩
    rw [← hs] at hor ⊢
    have hsl : s < 4294967296 := by omega
    have HOR := Lib.hid hor
    have HSL := Lib.hid hsl
    have g0 : ¬ (b.length : Int) - (i : Int) ≤ 4 := by omega
    have g1 : (i : Int) + 1 + 4 ≤ (c : Int) := by omega
    have g2 : (0 : Int) ≤ (i : Int) := by omega
    have g3 : (i : Int) ≤ 1000000 := by omega
    have g4 : (i : Int) + 1 ≤ (i : Int) + 1 + 4 := by omega
    have g5 : ¬ c = i + 1 := by omega
    have g6 : (b.length : Int) ≤ 1000000 := by omega
    have f1 : (b1 : Int) ≤ 255 := by omega
    have f2 : (b2 : Int) ≤ 255 := by omega
    have f3 : (b3 : Int) ≤ 255 := by omega
    have f4 : (b4 : Int) ≤ 255 := by omega
    obtain ⟨z, hz⟩ : ∃ z, z = (s + i + 5) % 4294967296 := ⟨_, rfl⟩
    rw [← hz]
    have HZ := Lib.hid hz
    clear hS hcell hpl hi hn hc h4 hs hor hsl hz
    go_enter Try.func40, Try.ntmps40
    go_wp2_with fail
    go_quiet (fail)
    rw [HOR.out]
    clear HOR x0 x1 x2 x3 f1 f2 f3 f4
    go_wp2_with fail
    go_ret2
    have hz := HZ.out
    have hsl := HSL.out
    have e1 : (((s : Int) + (i : Int) + 1) % 4294967296 + 4) % 4294967296 = (z : Int) := by omega
    have e2 : decide (((s : Int) + (i : Int) + 1 + 4) % 4294967296 < (b.length : Int)) = decide (z < b.length) := by
      have : (((s : Int) + (i : Int) + 1 + 4) % 4294967296 < (b.length : Int)) ↔ z < b.length := by omega
      exact decide_eq_decide.2 this
    refine ⟨?_, _, rfl⟩
    show Ending.returned (.tuple #[.int .u32 ((((s : Int) + (i : Int) + 1) % 4294967296 + 4) % 4294967296), .bool (decide (((s : Int) + (i : Int) + 1 + 4) % 4294967296 < (b.length : Int)))]) = _
    rw [e1, e2]
  · rw [if_neg h4]
    have g0 : (b.length : Int) - (i : Int) ≤ 4 := by omega
    have g2 : (0 : Int) ≤ (i : Int) := by omega
    have g6 : (b.length : Int) ≤ 1000000 := by omega
    have g7 : (i : Int) ≤ 1000000 := by omega
    clear hS h4 hi hc hn
    go_enter Try.func40, Try.ntmps40
    go_wp2_with fail
    go_ret2
    exact ⟨rfl, 0, rfl⟩

theorem be4_cells {p : Nat} (hp : p < 4294967296) : bv (be4 p) = [.int .u8 ((p : Int) / 16777216), .int .u8 ((p : Int) / 65536 % 256), .int .u8 ((p : Int) / 256 % 256), .int .u8 ((p : Int) % 256)] := by
  have e0 : ((UInt8.ofNat (p / 16777216)).toNat : Int) = (p : Int) / 16777216 := by simp; omega
  have e1 : ((UInt8.ofNat (p / 65536)).toNat : Int) = (p : Int) / 65536 % 256 := by simp
  have e2 : ((UInt8.ofNat (p / 256)).toNat : Int) = (p : Int) / 256 % 256 := by simp
  have e3 : ((UInt8.ofNat p).toNat : Int) = (p : Int) % 256 := by simp
  unfold be4 bv
  simp only [List.map_cons, List.map_nil, e0, e1, e2, e3]

theorem four_one (p : Nat) : ∀ u ∈ (#[Value.int .u8 ((p : Int) / 16777216), .int .u8 ((p : Int) / 65536 % 256), .int .u8 ((p : Int) / 256 % 256), .int .u8 ((p : Int) % 256)] : Array Value).toList, u.oneCell' = true := by
  intro u hu
  simp only [List.mem_cons, List.not_mem_nil, or_false] at hu
  rcases hu with rfl | rfl | rfl | rfl <;> rfl
set_option maxRecDepth 100000 in
set_option maxHeartbeats 4000000 in
/-- A place is put. -/
theorem put_any {k p m : Nat} (h : Cd w0 w K g G V R ps e) (hk : k < 258) (hp : p < 4294967296) (hm : m = if k < 256 then 1 else 2) (hl : (R m).length ≤ 1000000) :
    Calls Try.prog 42 #[.pointer (some ⟨K, 0, none⟩), .int .i64 (k : Int), .int .u32 (p : Int)] w fun x w' =>
      x = .returned (.tuple #[]) ∧ ∃ V', Cd w0 w' K g G V' (fun i => if i = m then R m ++ be4 p else R i) ps e := by
  obtain ⟨i8, hi8, hz0, hz1, hz2⟩ := info_parts info_u8
  have KC := Lib.hid (isCall_any k w)
  have hm3 : m < 3 := by rw [hm]; split <;> omega
  obtain ⟨A0, c0, hv0, hrow⟩ := own_form (h.row m hm3)
  have cv := h.blk.out (k := m) (by omega)
  rw [hv0] at cv
  have t0 : (0 : Int) ≤ (p : Int) := by omega
  have t1 : (p : Int) ≤ 4294967295 := by omega
  have HH := Lib.hid h
  have HL := Lib.hid (show ((R m).length + 4) * 1 ≤ 140737488355328 by omega)
  have HOW := Lib.hid hrow
  have HB := Lib.hid h.bel.size
  have HV := Lib.hid hv0
  have HC4 := Lib.hid (be4_cells hp)
  by_cases h256 : k < 256
  · rw [decide_eq_true h256] at KC
    obtain rfl : m = 1 := by rw [hm, if_pos h256]
    clear h hp hm3 hrow hv0 hl h256 hm
    have HSL := Lib.hid (sl_lit w 5 #[.int .u8 ((p : Int) / 16777216), .int .u8 ((p : Int) / 65536 % 256), .int .u8 ((p : Int) / 256 % 256), .int .u8 ((p : Int) % 256)] (show 4 ≤ 1000000000 by decide))
    have hbs : w0.heap.size ≤ (w.alloc (.cells #[.int .u8 ((p : Int) / 16777216), .int .u8 ((p : Int) / 65536 % 256), .int .u8 ((p : Int) / 256 % 256), .int .u8 ((p : Int) % 256)] 5)).heap.size := by have := HB.out; simp; omega
    have HBS := Lib.hid hbs
    clear hbs
    go_enter Try.func42, Try.ntmps42
    go_wp2_with fail
    refine KC.out.mono ?_
    rintro x w1 ⟨rfl, rfl⟩
    go_wp2_with (first
      | (at_builtin; refine wpList_appO _ rfl (.tmp 20) (.tmp 32) 22 rfl w0.heap.size 5 i8 _ 1 Try.underlying22 hi8 hz0 hz1 hz2 rfl _ (R 1).length (bv (R 1)) rfl (HOW.out.alloc _) _ 4 4 _ rfl HSL.out (four_one p) HL.out (by decide) HBS.out ?_)
      | fail)
    intro O3 co3 w3 ho3 hg3 hv3
    have hlen : (be4 p).length = 4 := rfl
    obtain ⟨d0, z0, hC⟩ := HH.out.app (k := 1) (by decide) ((Only.refl (fun _ => False) w).alloc (.cells #[.int .u8 ((p : Int) / 16777216), .int .u8 ((p : Int) / 65536 % 256), .int .u8 ((p : Int) / 256 % 256), .int .u8 ((p : Int) % 256)] 5)) (x := be4 p) (A' := O3) (c' := co3) (w3 := w3) (by rw [HC4.out, hlen]; exact ho3) (by rw [HV.out]; exact hg3) (by rw [HV.out, hlen]; simpa using hv3)
    rw [hlen] at hC
    have HC := Lib.hid hC
    clear ho3 hg3 hv3 hC HSL HOW cv
    go_wp2_with fail
    first | go_end0 | refine bodyPost_ret (results_none rfl _ _ _) rfl ?_
    exact ⟨rfl, _, HC.out⟩
  · rw [decide_eq_false h256] at KC
    obtain rfl : m = 2 := by rw [hm, if_neg h256]
    clear h hp hm3 hrow hv0 hl h256 hm
    have HSL := Lib.hid (sl_lit w 5 #[.int .u8 ((p : Int) / 16777216), .int .u8 ((p : Int) / 65536 % 256), .int .u8 ((p : Int) / 256 % 256), .int .u8 ((p : Int) % 256)] (show 4 ≤ 1000000000 by decide))
    have hbs : w0.heap.size ≤ (w.alloc (.cells #[.int .u8 ((p : Int) / 16777216), .int .u8 ((p : Int) / 65536 % 256), .int .u8 ((p : Int) / 256 % 256), .int .u8 ((p : Int) % 256)] 5)).heap.size := by have := HB.out; simp; omega
    have HBS := Lib.hid hbs
    clear hbs
    go_enter Try.func42, Try.ntmps42
    go_wp2_with fail
    refine KC.out.mono ?_
    rintro x w1 ⟨rfl, rfl⟩
    go_wp2_with (first
      | (at_builtin; refine wpList_appO _ rfl (.tmp 20) (.tmp 32) 22 rfl w0.heap.size 5 i8 _ 1 Try.underlying22 hi8 hz0 hz1 hz2 rfl _ (R 2).length (bv (R 2)) rfl (HOW.out.alloc _) _ 4 4 _ rfl HSL.out (four_one p) HL.out (by decide) HBS.out ?_)
      | fail)
    intro O3 co3 w3 ho3 hg3 hv3
    have hlen : (be4 p).length = 4 := rfl
    obtain ⟨d0, z0, hC⟩ := HH.out.app (k := 2) (by decide) ((Only.refl (fun _ => False) w).alloc (.cells #[.int .u8 ((p : Int) / 16777216), .int .u8 ((p : Int) / 65536 % 256), .int .u8 ((p : Int) / 256 % 256), .int .u8 ((p : Int) % 256)] 5)) (x := be4 p) (A' := O3) (c' := co3) (w3 := w3) (by rw [HC4.out, hlen]; exact ho3) (by rw [HV.out]; exact hg3) (by rw [HV.out, hlen]; simpa using hv3)
    rw [hlen] at hC
    have HC := Lib.hid hC
    clear ho3 hg3 hv3 hC HSL HOW cv
    go_wp2_with fail
    first | go_end0 | refine bodyPost_ret (results_none rfl _ _ _) rfl ?_
    exact ⟨rfl, _, HC.out⟩
end
end Go.Proofs.Ytdnkoeafnnohnaa

/-
  A step of the coder.
-/
namespace Go.Proofs.Ytdnkoeafnnohnaa
open Go.RowKit

def totE (R : Nat → List UInt8) (r : E2) : List UInt8 × List UInt8 × List UInt8 × En := (R 0 ++ r.main, R 1 ++ r.call, R 2 ++ r.jump, r.e)
def sumR (R : Nat → List UInt8) : Nat := (R 0).length + (R 1).length + (R 2).length
/-- what a step leaves -/
def StepPost (w0 : World) (K g : Nat) (b : List UInt8) (i : Nat) (R : Nat → List UInt8) (ps : List Nat) (e : En) (x : Ending) (w' : World) : Prop :=
  ∃ (d : Nat) (G' : Option Nat) (V' : Nat → Value) (R' : Nat → List UInt8) (ps' : List Nat) (e' : En), x = .returned (.int .i64 (d : Int)) ∧ 1 ≤ d ∧ i + d ≤ b.length ∧ Cd w0 w' K g G' V' R' ps' e' ∧ e'.l ≤ e.l + 1 ∧ sumR R' = sumR R + d ∧
    ∀ f, totE R (enc b (f + 1) i ps e) = totE R' (enc b f (i + d) ps' e')
def put1 (R : Nat → List UInt8) (x : UInt8) : Nat → List UInt8 := fun i => if i = 0 then R 0 ++ [x] else R i
theorem put1_tot (R : Nat → List UInt8) (x : UInt8) (r : E2) : totE R (r.cons x) = totE (put1 R x) r := by
  unfold totE E2.cons put1
  simp
theorem put1_sum (R : Nat → List UInt8) (x : UInt8) : sumR (put1 R x) = sumR R + 1 := by
  unfold sumR put1
  simp
  omega

theorem pbV_eq (b : List UInt8) (i : Nat) : pbV b i = .tuple #[.int .u32 ((if 4 < b.length - i then plc b i else 0 : Nat) : Int), .bool (apart b i)] := by
  unfold pbV apart
  by_cases h : 4 < b.length - i
  · rw [if_pos h, if_pos h, decide_eq_true h]; simp
  · rw [if_neg h, if_neg h, decide_eq_false h]; simp
def put4 (R : Nat → List UInt8) (m P : Nat) : Nat → List UInt8 := fun i => if i = m then R m ++ be4 P else R i
theorem put4_sum (R : Nat → List UInt8) (x : UInt8) (P : Nat) {m : Nat} (h : m = 1 ∨ m = 2) : sumR (fun i => if i = m then put1 R x m ++ be4 P else put1 R x i) = sumR R + 5 := by
  unfold sumR put1
  rcases h with rfl | rfl
  · simp [be4]; omega
  · simp [be4]; omega
theorem put4_tot (R : Nat → List UInt8) (x : UInt8) (k P : Nat) {m : Nat} (r : E2) (h : m = if k < 256 then 1 else 2) : totE (put1 R x) (r.puts k P) = totE (fun i => if i = m then put1 R x m ++ be4 P else put1 R x i) r := by
  unfold totE E2.puts
  by_cases h2 : k < 256
  · rw [if_pos h2] at h ⊢
    subst h
    simp
  · rw [if_neg h2] at h ⊢
    subst h
    simp

section
variable {w0 w w' : World} {K g : Nat} {G : Option Nat} {V : Nat → Value} {R : Nat → List UInt8} {ps : List Nat} {e : En} {A : Option Addr} {n c i : Nat} {b : List UInt8}

set_option maxRecDepth 100000 in
set_option maxHeartbeats 8000000 in
theorem b2step_any (h : Cd w0 w K g G V R ps e) (hS0 : Sl w0 A b.length (bv b)) (hc : b.length ≤ c) (hi : i < b.length) (hn : b.length ≤ 16384) (hl : sumR R ≤ 16384) (hel : e.l ≤ 100000) :
    Calls Try.prog 25 #[.pointer (some ⟨K, 0, none⟩), .slice A b.length c, .int .i64 (i : Int)] w (StepPost w0 K g b i R ps e) := by
  obtain ⟨i8, hi8, hz0, hz1, hz2⟩ := info_parts info_u8
  have hS := hS0.below h.bel
  obtain ⟨q, o, rfl, _, hcell⟩ := hS.2 (by omega)
  have cx : w.cell? ⟨q, o + i, none⟩ = some (.int .u8 ((b.getD i 0).toNat : Int)) := by rw [hcell i hi, bv_get _ _ hi]
  have hql : q < w0.heap.size := by
    obtain ⟨q', o', e', hlt, _⟩ := hS0.2 (by omega)
    injection e' with e'
    injection e' with e'
    omega
  obtain ⟨A0, c0, hv0, hrow⟩ := own_form (h.row 0 (by decide))
  have cv := h.blk.out (k := 0) (by decide)
  rw [hv0] at cv
  obtain ⟨x, hx⟩ : ∃ x, x = b.getD i 0 := ⟨_, rfl⟩
  rw [← hx] at cx
  have i0 : (0 : Int) ≤ (i : Int) := by omega
  have i1 : (i : Int) < (b.length : Int) := by omega
  have i2 : (b.length : Int) ≤ 16384 := by omega
  have HH := Lib.hid h
  have HL := Lib.hid (show ((R 0).length + 1) * 1 ≤ 140737488355328 by unfold sumR at hl; omega)
  have HLM := Lib.hid (show (R 0).length + 1 ≤ maxLen by unfold sumR at hl; unfold maxLen; omega)
  have HOW := Lib.hid (fun (m : Nat) (ob : Obj) => World.ownsRow.alloc (show (w.drewN m).ownsRow w0.heap.size 5 1 (.slice A0 (R 0).length c0) (R 0).length (bv (R 0)) from hrow) ob)
  have HNW := Lib.hid (fun (m : Nat) (u : Value) => (sl_one (w.drewN m) 5 u).news)
  have HBB := Lib.hid (fun (m : Nat) (ob : Obj) => (show w0.heap.size ≤ ((w.drewN m).alloc ob).heap.size by have h1 := h.bel.size; have h2 : (w.drewN m).heap.size = w.heap.size := rfl; simp; omega))
  have cva : ∀ (m : Nat) (ob : Obj), ((w.drewN m).alloc ob).cell? ⟨K, 259, none⟩ = some (.slice A0 (R 0).length c0) := fun m ob => ((h.blk.only (((Only.refl (fun _ => False) w).drewN m).alloc ob) (fun h => h)).out (k := 0) (by decide)).trans (by rw [hv0])
  have cvb : ∀ (ob : Obj), ((w.alloc ob).drew).cell? ⟨K, 259, none⟩ = some (.slice A0 (R 0).length c0) := fun ob => ((h.blk.only (((Only.refl (fun _ => False) w).alloc ob).drew) (fun h => h)).out (k := 0) (by decide)).trans (by rw [hv0])
  have cvc : ∀ (m : Nat) (ob : Obj), ((w.alloc ob).drewN m).cell? ⟨K, 259, none⟩ = some (.slice A0 (R 0).length c0) := fun m ob => ((h.blk.only (((Only.refl (fun _ => False) w).alloc ob).drewN m) (fun h => h)).out (k := 0) (by decide)).trans (by rw [hv0])
  have HV := Lib.hid hv0
  have HS0 := Lib.hid (And.intro hS0 (And.intro hc (And.intro hi (And.intro hn (And.intro hl (And.intro hel (And.intro hx hql)))))))
  have HAP := Lib.hid (fun (w1 w3 : World) (q' c2 : Nat) (h1 : Only (fun _ => False) w w1) (ho : w3.ownsRow w0.heap.size 5 1 (.slice (some ⟨q', 0, none⟩) ((R 0).length + 1) c2) ((R 0).length + 1) (bv (R 0) ++ [Value.int .u8 (x.toNat : Int)]))
      (hg : w1.grownBy w3 (Value.slice A0 (R 0).length c0).ownBlock) (hq : (Value.slice A0 (R 0).length c0).ownBlock = some q' ∨ q' = w1.heap.size) =>
    (show w3.cell? ⟨K, 259, none⟩ = some (.slice A0 (R 0).length c0) ∧ w3.frozen? ⟨K, 259, none⟩ = false ∧ w3.cell? ⟨q, o + i, none⟩ = some (.int .u8 (x.toNat : Int)) ∧ ∃ V', Cd w0 (w3.setCell ⟨K, 259, none⟩ (.slice (some ⟨q', 0, none⟩) ((R 0).length + 1) c2)) K g G V' (put1 R x) ps e from by
      obtain ⟨z1, z2, z3⟩ := h.app (k := 0) (w1 := w1) (w3 := w3) (A' := some ⟨q', 0, none⟩) (c' := c2) (x := [x]) (by decide) h1 ho (by rw [hv0]; exact hg) (by
        rw [hv0]
        rcases hq with e | e
        · exact .inl e.symm
        · exact .inr (by rw [e]; rfl))
      have hk := h.low.1
      have z4 : w3.cell? ⟨q, o + i, none⟩ = w.cell? ⟨q, o + i, none⟩ := by
        have a1 := z3.bel.cell (p := ⟨q, o + i, none⟩) hql
        have a2 := h.bel.cell (p := ⟨q, o + i, none⟩) hql
        rw [a2, ← a1]
        exact (World.cell?_setCell_other _ _ _ _ (fun e => by injection e with e; omega)).symm
      exact ⟨by rw [z1, hv0], z2, by rw [z4]; exact cx, _, z3⟩))
  clear h hS0 hS hcell hrow hv0 hi hn hl hel hx hc hql
  go_enter Try.func25, Try.ntmps25
  go_wp2_with fail
  go_region_law (first
      | (refine step_append_lies _ rfl (.tmp 16) (.tmp 21) 22 rfl w0.heap.size 5 i8 _ 1 1 Try.underlying22 hi8 hz0 hz1 hz2 rfl (by omega) _ (R 0).length (bv (R 0)) rfl (HOW.out _ _) _ 1 1 [.int .u8 (x.toNat : Int)] rfl rfl (HNW.out _ _) (one_one _ _) (by omega) HLM.out HL.out (HBB.out _ _) _ rfl ?_; intro q' c' w3 hod hgd hqd hql3; obtain ⟨d5, f5, _, hp⟩ := HAP.out _ w3 q' c' (by first | exact ((Only.refl _ w).alloc _).drew | exact ((Only.refl _ w).drewN _).alloc _ | exact (((Only.refl _ w).alloc _).drewN _)) hod hgd hqd; have HP := Lib.hid hp; clear hod hgd hqd hp))
  all_goals
    as_aux_lemma =>
      obtain ⟨V1, hC1⟩ := HP.out
      generalize w3.setCell ⟨K, 259, none⟩ (.slice (some ⟨q', 0, none⟩) ((R 0).length + 1) c') = w1 at *
      obtain ⟨hS0, hc, hi, hn, hl, hel, hx, hql⟩ := HS0.out
      have hS1 := hS0.below hC1.bel
      have HC := Lib.hid hC1
      have ha256 := ahd_lt b i
      have hx256 := x.toNat_lt
      have KA := Lib.hid (fun n => ahead_any (w := w1.drewN n) (c := c) (hS1.drewN n) hi (by omega))
      have KM := Lib.hid (fun W => chance_any (a := ahd b i) (x := x.toNat) ha256 hx256 W)
      obtain ⟨q2, o2, e2, _, hcell1⟩ := hS1.2 (by omega)
      injection e2 with e2
      injection e2 with e2 e3
      subst e2 e3
      have cx1 : w1.cell? ⟨q, o + i, none⟩ = some (.int .u8 (x.toNat : Int)) := by rw [hcell1 i hi, bv_get _ _ hi, ← hx]
      have KP := Lib.hid (fun n => placeBehind_any (w := w1.drewN n) (c := c) (hS1.drewN n) hc hi (by omega))
      clear HP HAP HOW HNW HBB cva cvb cvc HV HL HLM cx cv d5 f5 hS0 hS1 hcell1 hC1 hql3
      unfold markV at KM
      obtain ⟨mk, hmk⟩ : ∃ mk, mk = mark (ahd b i) x.toNat := ⟨_, rfl⟩
      rw [← hmk] at KM
      have HMK := Lib.hid (show mark (ahd b i) (b.getD i 0).toNat = mk by rw [hmk, hx])
      have HXE := Lib.hid hx
      clear hmk hx hc hn hl ha256 hx256 hql
      go_upto_region 2 with fail
      go_quiet ((first
        | (go_at_call 39; exact quiet_same_at (KA.out _))
        | (go_at_call 38; exact quiet_same_at ((KM.out _)))))
      have HC2 := Lib.hid (HC.out.drewN nq)
      clear KA KM HC cx1 KP
      generalize w1.drewN nq = w2 at *
      have hi := HS0.out.2.2.1
      cases mk with
      | none =>
        go_wp2_with fail
        go_ret
        exact ⟨1, G, V1, put1 R x, ps, e, rfl, Nat.le_refl _, hi, HC2.out, by omega, put1_sum R x, fun f => by rw [enc_none hi HMK.out, ← HXE.out, put1_tot]⟩
      | some k =>
        have hk := mark_lt (ahd_lt b i) HMK.out
        by_cases hlast : i + 1 = b.length
        · have j1 : ((i : Int) == (b.length : Int) - 1) = true := by simp; omega
          clear hk
          go_wp2_with fail
          go_ret
          exact ⟨1, G, V1, put1 R x, ps, e, rfl, Nat.le_refl _, hi, HC2.out, by omega, put1_sum R x, fun f => by rw [enc_last hlast HMK.out, ← HXE.out, put1_tot]⟩
        · have j1 : ((i : Int) == (b.length : Int) - 1) = false := by simp; omega
          have hlt : i + 1 < b.length := by omega
          have KP := Lib.hid (placeBehind_any (w := w2) (c := c) (HS0.out.1.below HC2.out.bel) HS0.out.2.1 hi (by have := HS0.out.2.2.2.1; omega))
          rw [pbV_eq] at KP
          have HLT := Lib.hid (And.intro hlt hi)
          obtain ⟨P, hP⟩ : ∃ P, P = (if 4 < b.length - i then plc b i else 0) := ⟨_, rfl⟩
          rw [← hP] at KP
          have HPE := Lib.hid hP
          clear hlast hlt hi hP
          cases hap : apart b i with
          | false =>
            rw [hap] at KP
            have HAPT := Lib.hid hap
            clear hap
            go_wp2_with fail
            refine KP.out.mono ?_
            rintro x2 w3 ⟨rfl, m, rfl⟩
            have HC3 := Lib.hid (HC2.out.drewN m)
            clear KP HC2 j1
            generalize w2.drewN m = w3 at *
            go_wp2_with fail
            have c0b := HC3.out.blk.bits
            have HC4 := Lib.hid (show Cd w0 w3.drew K g G V1 (put1 R x) ps e from HC3.out.drewN 1)
            have k0 : (0 : Int) ≤ (k : Int) := by omega
            have k1 : (k : Int) < 258 := by omega
            go_still_tail 9, (by kernel_rfl)
            change wpList _ _ _ _ _ w3.drew
            have KB := Lib.hid (HC4.out.bit (k := k) (v := 0) hk (by decide) (by have := HS0.out.2.2.2.2.2.1; omega))
            clear c0b k0 k1 HC3 HC4
            generalize w3.drew = w4 at *
            go_wp2_with fail
            refine KB.out.mono ?_
            rintro x2 w5 ⟨rfl, G5, hC5, _⟩
            have HC5 := Lib.hid hC5
            clear hC5 KB
            go_wp2_with fail
            go_ret
            exact ⟨1, G5, V1, put1 R x, _, _, rfl, Nat.le_refl _, HLT.out.2, HC5.out, bit_len _ _ _, put1_sum R x, fun f => by rw [enc_zero HLT.out.1 HMK.out HAPT.out, ← HXE.out, put1_tot]⟩
          | true =>
            rw [hap] at KP
            have hPP : P = plc b i := by
              rw [HPE.out, if_pos]
              have := apart_len hap
              omega
            have HAPT := Lib.hid (And.intro hap hPP)
            clear hap hPP
            go_wp2_with fail
            refine KP.out.mono ?_
            rintro x2 w3 ⟨rfl, m, rfl⟩
            have HC3 := Lib.hid (HC2.out.drewN m)
            clear KP HC2 j1
            generalize w2.drewN m = w3 at *
            go_wp2_with fail
            have c0b := HC3.out.blk.bits
            have HC4 := Lib.hid (show Cd w0 w3.drew K g G V1 (put1 R x) ps e from HC3.out.drewN 1)
            have k0 : (0 : Int) ≤ (k : Int) := by omega
            have k1 : (k : Int) < 258 := by omega
            go_still_tail 9, (by kernel_rfl)
            change wpList _ _ _ _ _ w3.drew
            have KB := Lib.hid (HC4.out.bit (k := k) (v := 1) hk (by decide) (by have := HS0.out.2.2.2.2.2.1; omega))
            clear c0b k0 k1 HC3 HC4
            generalize w3.drew = w4 at *
            go_wp2_with fail
            refine KB.out.mono ?_
            rintro x2 w5 ⟨rfl, G5, hC5, _⟩
            have HC5 := Lib.hid hC5
            clear hC5 KB
            have hPl : P < 4294967296 := by rw [HAPT.out.2]; exact Nat.mod_lt _ (by decide)
            obtain ⟨mm, hmm⟩ : ∃ mm, mm = if k < 256 then 1 else 2 := ⟨_, rfl⟩
            have hm12 : mm = 1 ∨ mm = 2 := by rw [hmm]; split; exact .inl rfl; exact .inr rfl
            have KU := Lib.hid (put_any HC5.out hk hPl hmm (by
              have h1 := HS0.out.2.2.2.2.1
              have h2 : put1 R x mm = R mm := by
                rcases hm12 with e | e <;> rw [e] <;> rfl
              rw [h2]
              unfold sumR at h1
              rcases hm12 with e | e <;> rw [e] <;> omega))
            have HMM := Lib.hid (And.intro hmm hm12)
            clear HC5 hk hPl hmm hm12
            go_wp2_with fail
            refine KU.out.mono ?_
            rintro x2 w6 ⟨rfl, V6, hC6⟩
            have HC6 := Lib.hid hC6
            clear hC6 KU
            go_wp2_with fail
            go_ret
            refine ⟨5, G5, V6, _, _, _, rfl, by omega, apart_len HAPT.out.1, HC6.out, bit_len _ _ _, ?_, fun f => ?_⟩
            · exact put4_sum R x P HMM.out.2
            · rw [enc_one HLT.out.1 HMK.out HAPT.out.1, ← HXE.out, put1_tot, ← HAPT.out.2]
              exact put4_tot R x k P _ HMM.out.1
end
end Go.Proofs.Ytdnkoeafnnohnaa
