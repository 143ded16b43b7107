/-
  No cell of these rows narrows 'for every input' (looked for: loops, veiled, ifaces, maps, wideKeys, modest, calm, conditions, laid).
  DERIVED. THE GIVEN ROWS OF THIS SEAT. 5 by the template 'for every input the law returns true; each argument reads behind the call as it read before'; 0 by the template 'total and deterministic' (their statements: YtkjhdpfomofggaaTotals.lean).
  GIVEN WITH THE SEED: the statements are not yours to turn. If you find one false, say at which input.
  Laid BY PROGRAM, IN A SANDBOX (cutbox-rows.mjs): the forced cells as the released guide's own fill.sh prints them over the translation 1032d43eb8110f4e… (all of the seat's roots in one cut). By AI agents, Wed Nov 11 2026. No macro, syntax, notation, axiom, sorry.
-/
import Derived.Test.YtkjhdpfomofggaaChecked
import GoSem.Claim
import GoSem.ClaimJoined
import GoSem.ClaimMapViews
import Derived.JoinedTies
import Derived.KernelRfl
namespace Go.Proofs.Ytkjhdpfomofggaa
/- THE CELL 'sum', in the pinned program and in every row, IS THE sha256 OF THE DUMP (.gsa) THAT YtkjhdpfomofggaaProg.lean LOADS. Nothing in Lean hashes anything: it is a label: what it is worth is what the hold of that sum in a sandbox is worth. -/
noncomputable def Try.pinned : Pinned := { name := "ytkjhdpfomofggaa", sum := "1032d43eb8110f4ecfd3b70eb5dd72edf1a559385098d893934fea6d893e760f", checked := Try.checked }
namespace Rows
def none {H : Type} : Left H := { results := [], args := [] }

/-- 'garblerlaw06.PrcTells': WHATEVER THE INPUT: true; the input reads as it did. -/
def prcTellsSpec : ChangeSpec := { name := "prcTells", fn := fun _ => fun
  | [d1, d2] => { results := [.lit (.bool true)], args := [d1, d2] }
  | _ => none }
def prcTellsRow : OpenClaim := { program := "ytkjhdpfomofggaa", sum := "1032d43eb8110f4ecfd3b70eb5dd72edf1a559385098d893934fea6d893e760f", func := "garbler/garblerlaw06.PrcTells", spec := "prcTells", unfollowed := true, recurses := true, apart := false }
def PrcTellsSaid : Prop := prcTellsRow.holds Try.pinned (OpenSpec.ofChange prcTellsSpec)

/-- ITS FALSE NEIGHBOUR: 'it returns false'. Refute it at one input. -/
def prcTellsWrong : ChangeSpec := { name := "prcTells", fn := fun _ => fun
  | [d1, d2] => { results := [.lit (.bool false)], args := [d1, d2] }
  | _ => none }
def PrcTellsWrongFalsely : Prop := prcTellsRow.holds Try.pinned (OpenSpec.ofChange prcTellsWrong)

/-- 'garblerlaw06.PrcPuts': WHATEVER THE INPUT: true; the input reads as it did. -/
def prcPutsSpec : ChangeSpec := { name := "prcPuts", fn := fun _ => fun
  | [d1, d2] => { results := [.lit (.bool true)], args := [d1, d2] }
  | _ => none }
def prcPutsRow : OpenClaim := { program := "ytkjhdpfomofggaa", sum := "1032d43eb8110f4ecfd3b70eb5dd72edf1a559385098d893934fea6d893e760f", func := "garbler/garblerlaw06.PrcPuts", spec := "prcPuts", unfollowed := true, recurses := true, apart := false }
def PrcPutsSaid : Prop := prcPutsRow.holds Try.pinned (OpenSpec.ofChange prcPutsSpec)

/-- ITS FALSE NEIGHBOUR: 'it returns false'. Refute it at one input. -/
def prcPutsWrong : ChangeSpec := { name := "prcPuts", fn := fun _ => fun
  | [d1, d2] => { results := [.lit (.bool false)], args := [d1, d2] }
  | _ => none }
def PrcPutsWrongFalsely : Prop := prcPutsRow.holds Try.pinned (OpenSpec.ofChange prcPutsWrong)

/-- 'garblerlaw06.PrcBack': WHATEVER THE INPUT: true; the input reads as it did. -/
def prcBackSpec : ChangeSpec := { name := "prcBack", fn := fun _ => fun
  | [d1, d2] => { results := [.lit (.bool true)], args := [d1, d2] }
  | _ => none }
def prcBackRow : OpenClaim := { program := "ytkjhdpfomofggaa", sum := "1032d43eb8110f4ecfd3b70eb5dd72edf1a559385098d893934fea6d893e760f", func := "garbler/garblerlaw06.PrcBack", spec := "prcBack", unfollowed := true, recurses := true, apart := false }
def PrcBackSaid : Prop := prcBackRow.holds Try.pinned (OpenSpec.ofChange prcBackSpec)

/-- ITS FALSE NEIGHBOUR: 'it returns false'. Refute it at one input. -/
def prcBackWrong : ChangeSpec := { name := "prcBack", fn := fun _ => fun
  | [d1, d2] => { results := [.lit (.bool false)], args := [d1, d2] }
  | _ => none }
def PrcBackWrongFalsely : Prop := prcBackRow.holds Try.pinned (OpenSpec.ofChange prcBackWrong)

/-- 'garblerlaw06.PrcWithin': WHATEVER THE INPUT: true; the input reads as it did. -/
def prcWithinSpec : ChangeSpec := { name := "prcWithin", fn := fun _ => fun
  | [d1, d2] => { results := [.lit (.bool true)], args := [d1, d2] }
  | _ => none }
def prcWithinRow : OpenClaim := { program := "ytkjhdpfomofggaa", sum := "1032d43eb8110f4ecfd3b70eb5dd72edf1a559385098d893934fea6d893e760f", func := "garbler/garblerlaw06.PrcWithin", spec := "prcWithin", unfollowed := true, recurses := true, apart := false }
def PrcWithinSaid : Prop := prcWithinRow.holds Try.pinned (OpenSpec.ofChange prcWithinSpec)

/-- ITS FALSE NEIGHBOUR: 'it returns false'. Refute it at one input. -/
def prcWithinWrong : ChangeSpec := { name := "prcWithin", fn := fun _ => fun
  | [d1, d2] => { results := [.lit (.bool false)], args := [d1, d2] }
  | _ => none }
def PrcWithinWrongFalsely : Prop := prcWithinRow.holds Try.pinned (OpenSpec.ofChange prcWithinWrong)

/-- 'garblerlaw06.PrcFirst': WHATEVER THE INPUT: true; the input reads as it did. -/
def prcFirstSpec : ChangeSpec := { name := "prcFirst", fn := fun _ => fun
  | [d] => { results := [.lit (.bool true)], args := [d] }
  | _ => none }
def prcFirstRow : OpenClaim := { program := "ytkjhdpfomofggaa", sum := "1032d43eb8110f4ecfd3b70eb5dd72edf1a559385098d893934fea6d893e760f", func := "garbler/garblerlaw06.PrcFirst", spec := "prcFirst", unfollowed := true, recurses := true, apart := false }
def PrcFirstSaid : Prop := prcFirstRow.holds Try.pinned (OpenSpec.ofChange prcFirstSpec)

/-- ITS FALSE NEIGHBOUR: 'it returns false'. Refute it at one input. -/
def prcFirstWrong : ChangeSpec := { name := "prcFirst", fn := fun _ => fun
  | [d] => { results := [.lit (.bool false)], args := [d] }
  | _ => none }
def PrcFirstWrongFalsely : Prop := prcFirstRow.holds Try.pinned (OpenSpec.ofChange prcFirstWrong)

/- THE SECOND FORM. 'bulk': how many values and letters a reading holds, each counted each time it is reached (what is shared counts as often as it is met; a slice's spare places count too). A statement '..UptoSaid' is the law's where the arguments, and the package variables that the reading takes, are together of bulk at most 1048576: NARROWER than '..Said'. Prove '..Said' where nothing that the law and all that it calls make is longer than what came in: it says more and counts as full. Else prove '..UptoSaid'. A law counts once. -/
mutual
def uptoBulk {H : Type} : DataW H → Nat
  | .lit (.string bytes) => bytes.length + 1
  | .lit _ => 1
  | .nil => 1
  | .ptr d => uptoBulk d + 1
  | .slice elems spare => uptoBulkAll elems + uptoBulkAll spare + 1
  | .agg parts => uptoBulkAll parts + 1
  | .iface _ d => uptoBulk d + 1
  | .map entries => uptoBulkEntries entries + 1
  | .held _ => 1
def uptoBulkAll {H : Type} : List (DataW H) → Nat
  | [] => 0
  | d :: r => uptoBulk d + uptoBulkAll r
def uptoBulkEntries {H : Type} : List (Lit × DataW H) → Nat
  | [] => 0
  | x :: r => uptoBulkEntry x + uptoBulkEntries r
def uptoBulkEntry {H : Type} : Lit × DataW H → Nat
  | (.string bytes, d) => bytes.length + uptoBulk d + 1
  | (_, d) => uptoBulk d + 1
 end
def uptoSmall : (H : Type) → List (DataW H) → Bool := fun _ ds => decide (uptoBulkAll ds ≤ 1048576)
def OpenSpec.upto (s : _root_.Go.ChangeSpec) : _root_.Go.OpenSpec := { _root_.Go.OpenSpec.ofChange s with cond := some uptoSmall }

/-- 'garblerlaw06.PrcTells', WHERE WHAT IT READS IS OF BULK AT MOST 1048576: true; the input reads as it did. -/
def prcTellsUptoRow : OpenClaim := { program := "ytkjhdpfomofggaa", sum := "1032d43eb8110f4ecfd3b70eb5dd72edf1a559385098d893934fea6d893e760f", func := "garbler/garblerlaw06.PrcTells", spec := "prcTells", unfollowed := true, recurses := true, apart := false, narrowed := true }
def PrcTellsUptoSaid : Prop := prcTellsUptoRow.holds Try.pinned (OpenSpec.upto prcTellsSpec)

/-- 'garblerlaw06.PrcPuts', WHERE WHAT IT READS IS OF BULK AT MOST 1048576: true; the input reads as it did. -/
def prcPutsUptoRow : OpenClaim := { program := "ytkjhdpfomofggaa", sum := "1032d43eb8110f4ecfd3b70eb5dd72edf1a559385098d893934fea6d893e760f", func := "garbler/garblerlaw06.PrcPuts", spec := "prcPuts", unfollowed := true, recurses := true, apart := false, narrowed := true }
def PrcPutsUptoSaid : Prop := prcPutsUptoRow.holds Try.pinned (OpenSpec.upto prcPutsSpec)

/-- 'garblerlaw06.PrcBack', WHERE WHAT IT READS IS OF BULK AT MOST 1048576: true; the input reads as it did. -/
def prcBackUptoRow : OpenClaim := { program := "ytkjhdpfomofggaa", sum := "1032d43eb8110f4ecfd3b70eb5dd72edf1a559385098d893934fea6d893e760f", func := "garbler/garblerlaw06.PrcBack", spec := "prcBack", unfollowed := true, recurses := true, apart := false, narrowed := true }
def PrcBackUptoSaid : Prop := prcBackUptoRow.holds Try.pinned (OpenSpec.upto prcBackSpec)

/-- 'garblerlaw06.PrcWithin', WHERE WHAT IT READS IS OF BULK AT MOST 1048576: true; the input reads as it did. -/
def prcWithinUptoRow : OpenClaim := { program := "ytkjhdpfomofggaa", sum := "1032d43eb8110f4ecfd3b70eb5dd72edf1a559385098d893934fea6d893e760f", func := "garbler/garblerlaw06.PrcWithin", spec := "prcWithin", unfollowed := true, recurses := true, apart := false, narrowed := true }
def PrcWithinUptoSaid : Prop := prcWithinUptoRow.holds Try.pinned (OpenSpec.upto prcWithinSpec)

/-- 'garblerlaw06.PrcFirst', WHERE WHAT IT READS IS OF BULK AT MOST 1048576: true; the input reads as it did. -/
def prcFirstUptoRow : OpenClaim := { program := "ytkjhdpfomofggaa", sum := "1032d43eb8110f4ecfd3b70eb5dd72edf1a559385098d893934fea6d893e760f", func := "garbler/garblerlaw06.PrcFirst", spec := "prcFirst", unfollowed := true, recurses := true, apart := false, narrowed := true }
def PrcFirstUptoSaid : Prop := prcFirstUptoRow.holds Try.pinned (OpenSpec.upto prcFirstSpec)

end Rows
end Go.Proofs.Ytkjhdpfomofggaa
