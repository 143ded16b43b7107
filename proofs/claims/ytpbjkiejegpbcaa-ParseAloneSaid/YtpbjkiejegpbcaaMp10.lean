/-
  AppFour, CdList, PsFl: put together.
-/
import Derived.Test.YtpbjkiejegpbcaaMp02
import Derived.Deep.RegionLaw
import Derived.Test.YtpbjkiejegpbcaaMp01
import Derived.Test.YtpbjkiejegpbcaaMp09
set_option linter.unusedVariables false
set_option linter.unusedSimpArgs false
/-
  One struct of four cells is appended onto a row of the call's own.
-/
namespace Go.Proofs.Ytpbjkiejegpbcaa
open Go.RowKit

section
variable {P : Program} {w : World}
end
end Go.Proofs.Ytpbjkiejegpbcaa

/-
  A row of packets of the call's own, as a list.
-/
namespace Go.Proofs.Ytpbjkiejegpbcaa
open Go.RowKit

def pkV (q : Pq) : List Value := [.int .i64 q.k, .int .u8 q.a, .int .i64 q.n, .int .u32 q.v]
theorem pkV_len : ∀ (L : List Pq), (L.flatMap pkV).length = L.length * 4
  | [] => rfl
  | q :: L => by rw [List.flatMap_cons, List.length_append, pkV_len L]; show 4 + _ = (L.length + 1) * 4; omega
theorem pkV_get : ∀ (L : List Pq) (i k : Nat), i < L.length → k < 4 → (L.flatMap pkV)[i * 4 + k]? = (pkV (L.getD i ⟨0, 0, 0, 0⟩))[k]?
  | q :: L, 0, k, _, hk => by
    rw [List.flatMap_cons, Nat.zero_mul, Nat.zero_add, List.getElem?_append_left (by show k < 4; exact hk)]
    rfl
  | q :: L, i + 1, k, hi, hk => by
    rw [List.flatMap_cons, List.getElem?_append_right (by show 4 ≤ _; omega), show (i + 1) * 4 + k - (pkV q).length = i * 4 + k by show (i + 1) * 4 + k - 4 = _; omega, pkV_get L i k (by simp at hi; omega) hk]
    rfl
theorem pkts_row {w : World} {base : Nat} {e : TypeId} {A : Option Addr} {n c : Nat} {L : List Pq} (h : w.ownsRow base e 4 (.slice A n c) n (L.flatMap pkV)) : L.length = n ∧ Pkts w A n (fun i => L.getD i ⟨0, 0, 0, 0⟩) := by
  have hl : L.length = n := by
    have := h.1
    rw [pkV_len] at this
    omega
  refine ⟨hl, fun hn => ?_⟩
  rcases h.2 with ⟨_, h0⟩ | ⟨g, cap, cur, hv, _, hh, _, _, _, ht⟩
  · omega
  · injection hv with e1 _ _
    refine ⟨g, 0, e1, (Array.getElem?_eq_some_iff.1 hh).1, fun i hi => ?_⟩
    have key : ∀ k, k < 4 → w.cell? ⟨g, 0 + i * 4 + k, none⟩ = (pkV (L.getD i ⟨0, 0, 0, 0⟩))[k]? := by
      intro k hk
      have hb : i * 4 + k < n * 4 := by omega
      have h1 := pkV_get L i k (by omega) hk
      rw [← ht, List.getElem?_take_of_lt hb] at h1
      rw [← h1]
      simp [World.cell?, hh, Nat.zero_add]
    exact ⟨key 0 (by omega), key 1 (by omega), key 2 (by omega), key 3 (by omega)⟩
end Go.Proofs.Ytpbjkiejegpbcaa

/-
  The program's Find: what holds from packet to packet.
-/
namespace Go.Proofs.Ytpbjkiejegpbcaa
open Go.RowKit

theorem info_ppk : (Try.prog.info? 44).map (fun i => (i.zero, i.size, i.bytes)) = some (some (.agg #[.int .i64 0, .int .u8 0, .int .i64 0, .int .u32 0]), 4, 32) := by kernel_rfl
theorem ppkV_one (q : Pq) : ∀ u ∈ pkV q, u.oneCell' = true := by simp [pkV, Value.oneCell']
theorem ppk_news (w : World) (q : Pq) (t : TypeId) : ∀ j u, (pkV q)[j]? = some u → (w.alloc (.cells #[.int .i64 q.k, .int .u8 q.a, .int .i64 q.n, .int .u32 q.v] t)).cell? ((⟨w.heap.size, 0, none⟩ : Addr).add j) = some u :=
  World.news_of_block (cs := #[.int .i64 q.k, .int .u8 q.a, .int .i64 q.n, .int .u32 q.v]) (heap_alloc_new w _)
theorem pown4_only {S : Nat → Prop} {w w' : World} {base : Nat} {e : TypeId} {A : Option Addr} {n c : Nat} {xs : List Value} (h : w.ownsRow base e 4 (.slice A n c) n xs) (hO : Only S w w') (hS : ∀ k, (Value.slice A n c).ownBlock = some k → ¬ S k) : w'.ownsRow base e 4 (.slice A n c) n xs := by
  refine ⟨h.1, ?_⟩
  rcases h.2 with h' | ⟨g, cap, cur, hv, hb, hh, h3⟩
  · exact .inl h'
  · refine .inr ⟨g, cap, cur, hv, hb, ?_, h3⟩
    have hlt : g < w.heap.size := (Array.getElem?_eq_some_iff.1 hh).1
    injection hv with e1 e2 e3
    rw [hO.block g hlt (hS g (by rw [e1]; rfl))]
    exact hh
theorem pk_snoc' {w : World} {base : Nat} {e : TypeId} {A : Option Addr} {c : Nat} {L : List Pq} {q : Pq} (h : w.ownsRow base e 4 (.slice A (L.length + 1) c) (L.length + 1) (L.flatMap pkV ++ pkV q)) :
    w.ownsRow base e 4 (.slice A (L ++ [q]).length c) (L ++ [q]).length ((L ++ [q]).flatMap pkV) := by
  have e1 : (L ++ [q]).length = L.length + 1 := by simp
  rw [e1]
  simpa using h
def zero4 : Array Value := #[.int .u32 0, .int .u32 0, .int .u32 0, .int .u32 0]
structure Fl (w wr : World) (g q1 : Nat) (G : Nat → Prop) (A : Option Addr) (n c D : Nat) (b : List UInt8) (s : Ps) (cnt : Nat) (L : List Pq) (R : Option Addr) (cl : Nat) : Prop where
  fd : Fd wr g G A n c D b s cnt
  cn : cnt ≤ s.i
  gi : ∀ i, G i → g ≤ i
  bel : Below w.heap.size w wr
  row : wr.ownsRow w.heap.size 44 4 (.slice R L.length cl) L.length (L.flatMap pkV)
  ra : ∀ k, (Value.slice R L.length cl).ownBlock = some k → ¬ G k ∧ k ≠ q1
  qb : Blk wr q1 24 zero4
  ql : q1 < g
  qw : w.heap.size ≤ q1
  al : 0 < n → ∀ p o, A = some ⟨p, o, none⟩ → p < w.heap.size
section
variable {w wr w' : World} {g q1 : Nat} {G : Nat → Prop} {A : Option Addr} {n c D : Nat} {b : List UInt8} {s s1 : Ps} {cnt : Nat} {L : List Pq} {R : Option Addr} {cl : Nat}
theorem Fl.rlt (h : Fl w wr g q1 G A n c D b s cnt L R cl) (k : Nat) (e : (Value.slice R L.length cl).ownBlock = some k) : w.heap.size ≤ k ∧ k < wr.heap.size := World.ownsRow.lt h.row k e
theorem Fl.gg (h : Fl w wr g q1 G A n c D b s cnt L R cl) : G g := by obtain ⟨_, _, _, hg, _⟩ := h.fd.turn; exact hg
theorem Fl.pkt (h : Fl w wr g q1 G A n c D b s cnt L R cl) (hp : FdPost wr g G A n c D b s1 w') : ∃ G' cnt', Fl w w' g q1 G' A n c D b s1 cnt' L R cl := by
  obtain ⟨G2, c2, k1, k2, k3, k4⟩ := hp
  have hs := h.bel.size
  have hg := h.fd.lt g h.gg
  have hgw : w.heap.size ≤ g := by have := h.qw; have := h.ql; omega
  have hq : ¬ G q1 := fun e => by have := h.gi _ e; have := h.ql; omega
  refine ⟨G2, c2, k1, k2, fun i hi => ?_, h.bel.trans (k4.below hs (fun i hi => by have := h.gi i hi; omega)), pown4_only h.row k4 (fun k e => (h.ra k e).1), fun k e => ⟨fun hk => ?_, (h.ra k e).2⟩, h.qb.only k4 hq, h.ql, h.qw, h.al⟩
  · rcases k3 i hi with h' | h'
    · exact h.gi i h'
    · omega
  · rcases k3 k hk with h' | h'
    · exact (h.ra k e).1 h'
    · have := h.rlt k e
      omega
theorem Fl.same (h : Fl w wr g q1 G A n c D b s cnt L R cl) (hO : Only (fun _ => False) wr w') : Fl w w' g q1 G A n c D b s cnt L R cl :=
  ⟨h.fd.keep hO (fun _ _ h => h) (fun _ _ _ _ h => h), h.cn, h.gi, h.bel.trans (hO.below h.bel.size (fun _ h => h.elim)), pown4_only h.row hO (fun _ _ h => h), h.ra, h.qb.only hO (fun h => h), h.ql, h.qw, h.al⟩
theorem Fl.app (h : Fl w wr g q1 G A n c D b s cnt L R cl) {p : Pq} {x cap : Nat} (ho : w'.ownsRow w.heap.size 44 4 (.slice (some ⟨x, 0, none⟩) (L.length + 1) cap) (L.length + 1) (L.flatMap pkV ++ pkV p)) (hg : wr.grownBy w' (Value.slice R L.length cl).ownBlock) (hl : (Value.slice R L.length cl).ownBlock = some x ∨ x = wr.heap.size) :
    Fl w w' g q1 G A n c D b s cnt (L ++ [p]) (some ⟨x, 0, none⟩) cap := by
  have hq := h.qb.lt
  have hO : Only (fun i => (Value.slice R L.length cl).ownBlock = some i) wr w' := ⟨hg.os, hg.tape, hg.output, hg.size, fun i hi hn => hg.block i hi (fun e => hn e.symm)⟩
  refine ⟨h.fd.keep hO (fun i hi e => (h.ra i e).1 hi) (fun h0 p o e e2 => ?_), h.cn, h.gi, h.bel.grown hg h.bel.size (fun k e => (h.rlt k e).1), pk_snoc' ho, fun k e => ?_, h.qb.only hO (fun e => (h.ra q1 e).2 rfl), h.ql, h.qw, h.al⟩
  · obtain ⟨_, _, hfq⟩ := h.fd.fq
    obtain ⟨b', o', e', hlt, _⟩ := hfq.sl.2 h0
    have h1 := h.rlt p e2
    have h2 := h.al h0 p o e
    omega
  · have ek : x = k := by injection e
    subst ek
    rcases hl with hl | hl
    · exact h.ra x hl
    · refine ⟨fun hx => ?_, by omega⟩
      have := h.fd.lt x hx
      omega
theorem Fl.at_ (h : Fl w wr g q1 G A n c D b s1 cnt L R cl) (k : Nat) (hi : s1.i + k ≤ n) : wr.cell? ⟨g, 1, none⟩ = some (.int .i64 (s1.i : Int)) ∧ wr.frozen? ⟨g, 1, none⟩ = false ∧ Fl w (wr.setCell ⟨g, 1, none⟩ (.int .i64 ((s1.i + k : Nat) : Int))) g q1 G A n c D b { s1 with i := s1.i + k } cnt L R cl := by
  obtain ⟨lv, av, hq, hg, ht⟩ := h.fd.turn
  have hgw : w.heap.size ≤ g := by have := h.qw; have := h.ql; omega
  have hO := (Only.refl (fun i => i = g) wr).setCell (p := ⟨g, 1, none⟩) (.inl rfl) (.int .i64 ((s1.i + k : Nat) : Int))
  refine ⟨hq.c1, hq.f.free 1, ht _ { s1 with i := s1.i + k } hO (hq.f.put 1 _) hi ⟨hq.lit.r0, hq.lit.r1, hq.lit.r2, hq.lit.r3⟩, by have := h.cn; show cnt ≤ s1.i + k; omega, h.gi, h.bel.trans (hO.below h.bel.size (by rintro i rfl; exact hgw)), pown4_only h.row hO (fun k e e2 => (h.ra k e).1 (by rw [e2]; exact hg)), h.ra, h.qb.only hO (fun e => by have := h.ql; omega), h.ql, h.qw, h.al⟩
end
end Go.Proofs.Ytpbjkiejegpbcaa
