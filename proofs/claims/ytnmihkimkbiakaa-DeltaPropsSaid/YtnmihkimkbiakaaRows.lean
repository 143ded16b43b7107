/-
  No cell of these rows narrows 'for every input' (looked for: loops, veiled, ifaces, maps, wideKeys, modest, calm, conditions, laid).
  DERIVED. THE GIVEN ROWS OF THIS SEAT. 5 by the template 'for every input the law returns true; each argument reads behind the call as it read before'; 0 by the template 'total and deterministic' (their statements: YtnmihkimkbiakaaTotals.lean).
  GIVEN WITH THE SEED: the statements are not yours to turn. If you find one false, say at which input.
  Laid BY PROGRAM, IN A SANDBOX (cutbox-rows.mjs): the forced cells as the released guide's own fill.sh prints them over the translation f8516ca65e2bec78… (all of the seat's roots in one cut). By AI agents, Wed Nov 11 2026. No macro, syntax, notation, axiom, sorry.
-/
import Derived.Test.YtnmihkimkbiakaaChecked
import GoSem.Claim
import GoSem.ClaimJoined
import GoSem.ClaimMapViews
import Derived.JoinedTies
import Derived.KernelRfl
namespace Go.Proofs.Ytnmihkimkbiakaa
/- THE CELL 'sum', in the pinned program and in every row, IS THE sha256 OF THE DUMP (.gsa) THAT YtnmihkimkbiakaaProg.lean LOADS. Nothing in Lean hashes anything: it is a label: what it is worth is what the hold of that sum in a sandbox is worth. -/
noncomputable def Try.pinned : Pinned := { name := "ytnmihkimkbiakaa", sum := "f8516ca65e2bec782af7ee41feff83b75a798cfb7bec89ae2e76a5d486d097b9", checked := Try.checked }
namespace Rows
def none {H : Type} : Left H := { results := [], args := [] }

/-- 'garblerlaw13.DeltaSides': WHATEVER THE INPUT: true; the input reads as it did. -/
def deltaSidesSpec : ChangeSpec := { name := "deltaSides", fn := fun _ => fun
  | [d1, d2] => { results := [.lit (.bool true)], args := [d1, d2] }
  | _ => none }
def deltaSidesRow : OpenClaim := { program := "ytnmihkimkbiakaa", sum := "f8516ca65e2bec782af7ee41feff83b75a798cfb7bec89ae2e76a5d486d097b9", func := "garbler/garblerlaw13.DeltaSides", spec := "deltaSides", unfollowed := true, recurses := true, apart := false }
def DeltaSidesSaid : Prop := deltaSidesRow.holds Try.pinned (OpenSpec.ofChange deltaSidesSpec)

/-- ITS FALSE NEIGHBOUR: 'it returns false'. Refute it at one input. -/
def deltaSidesWrong : ChangeSpec := { name := "deltaSides", fn := fun _ => fun
  | [d1, d2] => { results := [.lit (.bool false)], args := [d1, d2] }
  | _ => none }
def DeltaSidesWrongFalsely : Prop := deltaSidesRow.holds Try.pinned (OpenSpec.ofChange deltaSidesWrong)

/-- 'garblerlaw13.DeltaBack': WHATEVER THE INPUT: true; the input reads as it did. -/
def deltaBackSpec : ChangeSpec := { name := "deltaBack", fn := fun _ => fun
  | [d1, d2] => { results := [.lit (.bool true)], args := [d1, d2] }
  | _ => none }
def deltaBackRow : OpenClaim := { program := "ytnmihkimkbiakaa", sum := "f8516ca65e2bec782af7ee41feff83b75a798cfb7bec89ae2e76a5d486d097b9", func := "garbler/garblerlaw13.DeltaBack", spec := "deltaBack", unfollowed := true, recurses := true, apart := false }
def DeltaBackSaid : Prop := deltaBackRow.holds Try.pinned (OpenSpec.ofChange deltaBackSpec)

/-- ITS FALSE NEIGHBOUR: 'it returns false'. Refute it at one input. -/
def deltaBackWrong : ChangeSpec := { name := "deltaBack", fn := fun _ => fun
  | [d1, d2] => { results := [.lit (.bool false)], args := [d1, d2] }
  | _ => none }
def DeltaBackWrongFalsely : Prop := deltaBackRow.holds Try.pinned (OpenSpec.ofChange deltaBackWrong)

/-- 'garblerlaw13.DeltaFlows': WHATEVER THE INPUT: true; the input reads as it did. -/
def deltaFlowsSpec : ChangeSpec := { name := "deltaFlows", fn := fun _ => fun
  | [d1, d2, d3] => { results := [.lit (.bool true)], args := [d1, d2, d3] }
  | _ => none }
def deltaFlowsRow : OpenClaim := { program := "ytnmihkimkbiakaa", sum := "f8516ca65e2bec782af7ee41feff83b75a798cfb7bec89ae2e76a5d486d097b9", func := "garbler/garblerlaw13.DeltaFlows", spec := "deltaFlows", unfollowed := true, recurses := true, apart := false }
def DeltaFlowsSaid : Prop := deltaFlowsRow.holds Try.pinned (OpenSpec.ofChange deltaFlowsSpec)

/-- ITS FALSE NEIGHBOUR: 'it returns false'. Refute it at one input. -/
def deltaFlowsWrong : ChangeSpec := { name := "deltaFlows", fn := fun _ => fun
  | [d1, d2, d3] => { results := [.lit (.bool false)], args := [d1, d2, d3] }
  | _ => none }
def DeltaFlowsWrongFalsely : Prop := deltaFlowsRow.holds Try.pinned (OpenSpec.ofChange deltaFlowsWrong)

/-- 'garblerlaw13.DeltaProps': WHATEVER THE INPUT: true; the input reads as it did. -/
def deltaPropsSpec : ChangeSpec := { name := "deltaProps", fn := fun _ => fun
  | [d] => { results := [.lit (.bool true)], args := [d] }
  | _ => none }
def deltaPropsRow : OpenClaim := { program := "ytnmihkimkbiakaa", sum := "f8516ca65e2bec782af7ee41feff83b75a798cfb7bec89ae2e76a5d486d097b9", func := "garbler/garblerlaw13.DeltaProps", spec := "deltaProps", unfollowed := true, recurses := true, apart := false }
def DeltaPropsSaid : Prop := deltaPropsRow.holds Try.pinned (OpenSpec.ofChange deltaPropsSpec)

/-- ITS FALSE NEIGHBOUR: 'it returns false'. Refute it at one input. -/
def deltaPropsWrong : ChangeSpec := { name := "deltaProps", fn := fun _ => fun
  | [d] => { results := [.lit (.bool false)], args := [d] }
  | _ => none }
def DeltaPropsWrongFalsely : Prop := deltaPropsRow.holds Try.pinned (OpenSpec.ofChange deltaPropsWrong)

/-- 'garblerlaw13.DeltaFlat': WHATEVER THE INPUT: true; the input reads as it did. -/
def deltaFlatSpec : ChangeSpec := { name := "deltaFlat", fn := fun _ => fun
  | [d1, d2] => { results := [.lit (.bool true)], args := [d1, d2] }
  | _ => none }
def deltaFlatRow : OpenClaim := { program := "ytnmihkimkbiakaa", sum := "f8516ca65e2bec782af7ee41feff83b75a798cfb7bec89ae2e76a5d486d097b9", func := "garbler/garblerlaw13.DeltaFlat", spec := "deltaFlat", unfollowed := true, recurses := true, apart := false }
def DeltaFlatSaid : Prop := deltaFlatRow.holds Try.pinned (OpenSpec.ofChange deltaFlatSpec)

/-- ITS FALSE NEIGHBOUR: 'it returns false'. Refute it at one input. -/
def deltaFlatWrong : ChangeSpec := { name := "deltaFlat", fn := fun _ => fun
  | [d1, d2] => { results := [.lit (.bool false)], args := [d1, d2] }
  | _ => none }
def DeltaFlatWrongFalsely : Prop := deltaFlatRow.holds Try.pinned (OpenSpec.ofChange deltaFlatWrong)

/- THE SECOND FORM. 'bulk': how many values and letters a reading holds, each counted each time it is reached (what is shared counts as often as it is met; a slice's spare places count too). A statement '..UptoSaid' is the law's where the arguments, and the package variables that the reading takes, are together of bulk at most 1048576: NARROWER than '..Said'. Prove '..Said' where nothing that the law and all that it calls make is longer than what came in: it says more and counts as full. Else prove '..UptoSaid'. A law counts once. -/
mutual
def uptoBulk {H : Type} : DataW H → Nat
  | .lit (.string bytes) => bytes.length + 1
  | .lit _ => 1
  | .nil => 1
  | .ptr d => uptoBulk d + 1
  | .slice elems spare => uptoBulkAll elems + uptoBulkAll spare + 1
  | .agg parts => uptoBulkAll parts + 1
  | .iface _ d => uptoBulk d + 1
  | .map entries => uptoBulkEntries entries + 1
  | .held _ => 1
def uptoBulkAll {H : Type} : List (DataW H) → Nat
  | [] => 0
  | d :: r => uptoBulk d + uptoBulkAll r
def uptoBulkEntries {H : Type} : List (Lit × DataW H) → Nat
  | [] => 0
  | x :: r => uptoBulkEntry x + uptoBulkEntries r
def uptoBulkEntry {H : Type} : Lit × DataW H → Nat
  | (.string bytes, d) => bytes.length + uptoBulk d + 1
  | (_, d) => uptoBulk d + 1
 end
def uptoSmall : (H : Type) → List (DataW H) → Bool := fun _ ds => decide (uptoBulkAll ds ≤ 1048576)
def OpenSpec.upto (s : _root_.Go.ChangeSpec) : _root_.Go.OpenSpec := { _root_.Go.OpenSpec.ofChange s with cond := some uptoSmall }

/-- 'garblerlaw13.DeltaSides', WHERE WHAT IT READS IS OF BULK AT MOST 1048576: true; the input reads as it did. -/
def deltaSidesUptoRow : OpenClaim := { program := "ytnmihkimkbiakaa", sum := "f8516ca65e2bec782af7ee41feff83b75a798cfb7bec89ae2e76a5d486d097b9", func := "garbler/garblerlaw13.DeltaSides", spec := "deltaSides", unfollowed := true, recurses := true, apart := false, narrowed := true }
def DeltaSidesUptoSaid : Prop := deltaSidesUptoRow.holds Try.pinned (OpenSpec.upto deltaSidesSpec)

/-- 'garblerlaw13.DeltaBack', WHERE WHAT IT READS IS OF BULK AT MOST 1048576: true; the input reads as it did. -/
def deltaBackUptoRow : OpenClaim := { program := "ytnmihkimkbiakaa", sum := "f8516ca65e2bec782af7ee41feff83b75a798cfb7bec89ae2e76a5d486d097b9", func := "garbler/garblerlaw13.DeltaBack", spec := "deltaBack", unfollowed := true, recurses := true, apart := false, narrowed := true }
def DeltaBackUptoSaid : Prop := deltaBackUptoRow.holds Try.pinned (OpenSpec.upto deltaBackSpec)

/-- 'garblerlaw13.DeltaFlows', WHERE WHAT IT READS IS OF BULK AT MOST 1048576: true; the input reads as it did. -/
def deltaFlowsUptoRow : OpenClaim := { program := "ytnmihkimkbiakaa", sum := "f8516ca65e2bec782af7ee41feff83b75a798cfb7bec89ae2e76a5d486d097b9", func := "garbler/garblerlaw13.DeltaFlows", spec := "deltaFlows", unfollowed := true, recurses := true, apart := false, narrowed := true }
def DeltaFlowsUptoSaid : Prop := deltaFlowsUptoRow.holds Try.pinned (OpenSpec.upto deltaFlowsSpec)

/-- 'garblerlaw13.DeltaProps', WHERE WHAT IT READS IS OF BULK AT MOST 1048576: true; the input reads as it did. -/
def deltaPropsUptoRow : OpenClaim := { program := "ytnmihkimkbiakaa", sum := "f8516ca65e2bec782af7ee41feff83b75a798cfb7bec89ae2e76a5d486d097b9", func := "garbler/garblerlaw13.DeltaProps", spec := "deltaProps", unfollowed := true, recurses := true, apart := false, narrowed := true }
def DeltaPropsUptoSaid : Prop := deltaPropsUptoRow.holds Try.pinned (OpenSpec.upto deltaPropsSpec)

/-- 'garblerlaw13.DeltaFlat', WHERE WHAT IT READS IS OF BULK AT MOST 1048576: true; the input reads as it did. -/
def deltaFlatUptoRow : OpenClaim := { program := "ytnmihkimkbiakaa", sum := "f8516ca65e2bec782af7ee41feff83b75a798cfb7bec89ae2e76a5d486d097b9", func := "garbler/garblerlaw13.DeltaFlat", spec := "deltaFlat", unfollowed := true, recurses := true, apart := false, narrowed := true }
def DeltaFlatUptoSaid : Prop := deltaFlatUptoRow.holds Try.pinned (OpenSpec.upto deltaFlatSpec)

end Rows
end Go.Proofs.Ytnmihkimkbiakaa
