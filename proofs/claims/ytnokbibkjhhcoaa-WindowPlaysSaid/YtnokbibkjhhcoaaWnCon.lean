/-
  What the program's window owes, whatever it is made of: the laws are walked over this.
-/
import Derived.Test.YtnokbibkjhhcoaaMtMem
import Derived.Test.YtnokbibkjhhcoaaWnPure
import Derived.Test.YtnokbibkjhhcoaaOwn
namespace Go.Proofs.Ytnokbibkjhhcoaa
open Go.RowKit

/-- Pw w g G m s: the window at block g, over the meter at block m, owns the blocks G, and is in the state s. -/
structure WinCon (Pw : World → Nat → (Nat → Prop) → Nat → Ws → Prop) : Prop where
  old : ∀ {w g G m s i}, Pw w g G m s → G i → i < w.heap.size
  only : ∀ {w w' g G m s} {S : Nat → Prop}, Pw w g G m s → Only S w w' → (∀ i, G i → ¬ S i) → Pw w' g G m s
  new : ∀ {w m q t} {n : Int}, MeterAt w 60 m q t → Fine q t → -9223372036854775808 ≤ n → n ≤ 1048576 → fits t.code t.mem q.mem (max n 1) →
    Calls Try.prog 8 #[.int .i64 n, .pointer (some ⟨m, 0, none⟩)] w fun x w' =>
      ∃ g G, x = .returned (.tuple #[.pointer (some ⟨g, 0, none⟩), .int .i64 0]) ∧ Pw w' g G m (Ws.new n) ∧ MeterAt w' 60 m q (t.doMem q (max n 1)) ∧ (∀ i, G i → w.heap.size ≤ i) ∧ Only (fun i => i = m) w w'
  short : ∀ {w m q t} {n : Int}, MeterAt w 60 m q t → Fine q t → -9223372036854775808 ≤ n → n ≤ 1048576 → ¬ fits t.code t.mem q.mem (max n 1) →
    Calls Try.prog 8 #[.int .i64 n, .pointer (some ⟨m, 0, none⟩)] w fun x w' =>
      x = .returned (.tuple #[.pointer none, .int .i64 (t.doMem q (max n 1)).code]) ∧ MeterAt w' 60 m q (t.doMem q (max n 1)) ∧ Only (fun i => i = m) w w'
  put : ∀ {w g G m s} {b : UInt8}, Pw w g G m s → s.sz ≤ 1048576 → s.l.length ≤ 1000000000 →
    Calls Try.prog 11 #[.pointer (some ⟨g, 0, none⟩), .int .u8 (b.toNat : Int)] w (OwnPost (fun w' G' => Pw w' g G' m (s.put b)) w G (.tuple #[]))
  copy : ∀ {w g G m s} {d : Int}, Pw w g G m s → s.sz ≤ 1048576 → s.l.length ≤ 1000000000 → -9223372036854775808 ≤ d → d ≤ 9223372036854775807 →
    Calls Try.prog 14 #[.pointer (some ⟨g, 0, none⟩), .int .i64 d] w (OwnPost (fun w' G' => Pw w' g G' m (s.copy d)) w G (.int .u8 ((s.at_ d).toNat : Int)))
  empty : ∀ {w g G m s}, Pw w g G m s → s.sz ≤ 1048576 →
    Calls Try.prog 16 #[.pointer (some ⟨g, 0, none⟩)] w (OwnPost (fun w' G' => Pw w' g G' m s.empty) w G (.tuple #[]))
  close : ∀ {w g G m s q t}, Pw w g G m s → s.sz ≤ 1048576 → MeterAt w 60 m q t → Fine q t → ¬ G m →
    Calls Try.prog 17 #[.pointer (some ⟨g, 0, none⟩)] w fun x w' =>
      x = .returned (.tuple #[]) ∧ ∃ G', Pw w' g G' m s.close ∧ MeterAt w' 60 m q (if s.shut = true then t else t.doFree (s.sz : Int)) ∧ (∀ i, G' i → G i ∨ w.heap.size ≤ i) ∧ Only (fun i => G i ∨ i = m) w w'
  has : ∀ {w g G m s} {d : Int}, Pw w g G m s → s.sz ≤ 1048576 → -9223372036854775808 ≤ d → d ≤ 9223372036854775807 →
    Calls Try.prog 18 #[.pointer (some ⟨g, 0, none⟩), .int .i64 d] w fun x w' => x = .returned (.bool (s.has d)) ∧ ∃ k, w.drewN k = w'
  at_ : ∀ {w g G m s} {d : Int}, Pw w g G m s → s.sz ≤ 1048576 → -9223372036854775808 ≤ d → d ≤ 9223372036854775807 →
    Calls Try.prog 19 #[.pointer (some ⟨g, 0, none⟩), .int .i64 d] w fun x w' => x = .returned (.int .u8 ((s.at_ d).toNat : Int)) ∧ ∃ k, w.drewN k = w'
  count : ∀ {w g G m s}, Pw w g G m s → s.sz ≤ 1048576 →
    Calls Try.prog 20 #[.pointer (some ⟨g, 0, none⟩)] w fun x w' => x = .returned (.int .i64 (s.count : Int)) ∧ ∃ k, w.drewN k = w'

/-- The laws' beginning, as they lean on it. -/
def AwakeCon7 : Prop := ∀ w, Calls Try.prog 7 #[] w fun e w' => e = .returned (.bool true) ∧ Below w.heap.size w w'
end Go.Proofs.Ytnokbibkjhhcoaa
