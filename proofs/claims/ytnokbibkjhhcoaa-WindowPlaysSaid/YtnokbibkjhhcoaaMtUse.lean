/-
  Atomic numbers of 64 bits, of one goroutine, and the calls over them: each a contract.
-/
import Derived.Test.YtnokbibkjhhcoaaRows
import Derived.Test.YtnokbibkjhhcoaaMtPure
import Derived.Tactics
import Derived.Tactics2
import Derived.Laws.Pointers
import Derived.Laws.LoneSync
import Derived.Lib.MinMax
import Derived.RegionTactic
import Derived.RegionCalls
import Derived.StillTailTactics
namespace Go.Proofs.Ytnokbibkjhhcoaa
open Go.RowKit

theorem load_any (a : Addr) (x : Int) (w : World) (h0 : w.cell? a = some (.int .i64 x)) :
    Calls Try.prog 28 #[.pointer (some a)] w fun e w' => e = .returned (.int .i64 x) ∧ w = w' := by
  have hl := run_call_load (P := Try.prog) Try.func32 (by kernel_rfl) (by kernel_rfl) (by kernel_rfl) .i64 (by kernel_rfl) h0
  go_enter Try.func28, Try.ntmps28
  go_wp2
  go_ret
  exact ⟨rfl, rfl⟩

theorem cas_hit (a : Addr) (x y : Int) (w : World) (h0 : w.cell? a = some (.int .i64 x)) (hz : w.frozen? a = false) :
    Calls Try.prog 34 #[.pointer (some a), .int .i64 x, .int .i64 y] w fun e w' => e = .returned (.bool true) ∧ w' = w.setCell a (.int .i64 y) := by
  have hl := run_call_cas_hit (P := Try.prog) Try.func35 (by kernel_rfl) (by kernel_rfl) (by kernel_rfl) .i64 (by kernel_rfl) (y := y) h0 hz
  go_enter Try.func34, Try.ntmps34
  go_wp2
  go_ret
  exact ⟨rfl, rfl⟩

section
variable {g i : Nat} {cs : Array Value} {was most n x code : Int} {w : World}

theorem code_any (hB : Blk w g 60 cs) (hc : cs[11]? = some (.int .i64 code)) :
    Calls Try.prog 23 #[.pointer (some ⟨g, 0, none⟩)] w fun e w' => e = .returned (.int .i64 code) ∧ w = w' := by
  have h0 : w.cell? ⟨g, 11, none⟩ = some (.int .i64 code) := (hB.cell 11).trans hc
  have K := Lib.hid (load_any _ _ _ h0)
  clear h0 hB hc
  go_enter Try.func23, Try.ntmps23
  go_wp2_with fail
  refine K.out.mono ?_
  rintro e w' ⟨rfl, rfl⟩
  go_wp2_with fail
  go_ret
  exact ⟨rfl, rfl⟩

theorem spend_zero (hB : Blk w g 60 cs) (hc : cs[11]? = some (.int .i64 0)) :
    Calls Try.prog 33 #[.pointer (some ⟨g, 0, none⟩), .int .i64 x] w fun e w' => e = .returned (.tuple #[]) ∧ w' = w.setCell ⟨g, 11, none⟩ (.int .i64 x) := by
  have h0 : w.cell? ⟨g, 11, none⟩ = some (.int .i64 0) := (hB.cell 11).trans hc
  have K := Lib.hid (cas_hit _ _ x _ h0 (hB.free 11))
  clear h0 hB hc
  go_enter Try.func33, Try.ntmps33
  go_wp2_with fail
  refine K.out.mono ?_
  rintro e w' ⟨rfl, rfl⟩
  go_wp2_with fail
  first | go_end0 | refine bodyPost_ret (results_none rfl _ _ _) rfl ?_
  exact ⟨rfl, rfl⟩

theorem lower_any (hB : Blk w g 60 cs) (hc : cs[i]? = some (.int .i64 was)) (h0 : 0 ≤ was) (h1 : was ≤ 9223372036854775807) (hn : n ≤ 9223372036854775807) :
    Calls Try.prog 31 #[.pointer (some ⟨g, i, none⟩), .int .i64 n] w fun e w' => e = .returned (.tuple #[]) ∧ w' = w.setCell ⟨g, i, none⟩ (.int .i64 (max (was - max n 0) 0)) := by
  have hcell : w.cell? ⟨g, i, none⟩ = some (.int .i64 was) := (hB.cell i).trans hc
  have K := Lib.hid (load_any _ _ _ hcell)
  have C := Lib.hid (fun y => cas_hit _ _ y _ hcell (hB.free i))
  have e1 : IntKind.i64.wrap (was - max n 0) = was - max n 0 := IntWalk.i64_in _ (by omega)
  clear hcell hB hc
  go_enter Try.func31, Try.ntmps31
  go_wp2
  go_loopw [5] (fun _ wr => wr = w) (fun _ _ => 0)
  case atStart => rfl
  case round =>
    obtain rfl := hrel
    go_wp2_with fail
    refine K.out.mono ?_
    rintro e w' ⟨rfl, rfl⟩
    go_wp2_with fail
    refine (C.out _).mono ?_
    rintro e w' ⟨rfl, rfl⟩
    go_wp2_with fail
    first | (refine bodyPost_ret (results_none rfl _ _ _) rfl ?_) | (simp only [Exit.inBlock, Exit.then]; refine bodyPost_ret (results_none rfl _ _ _) rfl ?_)
    exact ⟨rfl, rfl⟩

theorem raise_any {now : Int} (hB : Blk w g 60 cs) (hc : cs[i]? = some (.int .i64 was)) :
    Calls Try.prog 30 #[.pointer (some ⟨g, i, none⟩), .int .i64 now] w fun e w' => e = .returned (.tuple #[]) ∧ w' = w.setCell ⟨g, i, none⟩ (.int .i64 (max was now)) := by
  have hcell : w.cell? ⟨g, i, none⟩ = some (.int .i64 was) := (hB.cell i).trans hc
  have K := Lib.hid (load_any _ _ _ hcell)
  have C := Lib.hid (fun y => cas_hit _ _ y _ hcell (hB.free i))
  clear hcell hB hc
  go_enter Try.func30, Try.ntmps30
  go_wp2
  go_loopw [4] (fun _ wr => wr = w) (fun _ _ => 0)
  case atStart => rfl
  case round =>
    obtain rfl := hrel
    go_wp2_with fail
    refine K.out.mono ?_
    rintro e w' ⟨rfl, rfl⟩
    go_wp2_with fail
    refine (C.out _).mono ?_
    rintro e w' ⟨rfl, rfl⟩
    go_wp2_with fail
    first | (refine bodyPost_ret (results_none rfl _ _ _) rfl ?_) | (simp only [Exit.inBlock, Exit.then]; refine bodyPost_ret (results_none rfl _ _ _) rfl ?_)
    exact ⟨rfl, rfl⟩
end
end Go.Proofs.Ytnokbibkjhhcoaa
