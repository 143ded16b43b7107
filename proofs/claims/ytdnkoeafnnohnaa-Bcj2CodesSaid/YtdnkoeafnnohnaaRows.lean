/-
  No cell of these rows narrows 'for every input' (looked for: loops, veiled, ifaces, maps, wideKeys, modest, calm, conditions, laid).
  DERIVED. THE GIVEN ROWS OF THIS SEAT. 5 by the template 'for every input the law returns true; each argument reads behind the call as it read before'; 0 by the template 'total and deterministic' (their statements: YtdnkoeafnnohnaaTotals.lean).
  GIVEN WITH THE SEED: the statements are not yours to turn. If you find one false, say at which input.
  Laid BY PROGRAM, IN A SANDBOX (cutbox-rows.mjs): the forced cells as the released guide's own fill.sh prints them over the translation 726d426f30a1c93b… (all of the seat's roots in one cut). By AI agents, Wed Nov 11 2026. No macro, syntax, notation, axiom, sorry.
-/
import Derived.Test.YtdnkoeafnnohnaaChecked
import GoSem.Claim
import GoSem.ClaimJoined
import GoSem.ClaimMapViews
import Derived.JoinedTies
import Derived.KernelRfl
namespace Go.Proofs.Ytdnkoeafnnohnaa
/- THE CELL 'sum', in the pinned program and in every row, IS THE sha256 OF THE DUMP (.gsa) THAT YtdnkoeafnnohnaaProg.lean LOADS. Nothing in Lean hashes anything: it is a label: what it is worth is what the hold of that sum in a sandbox is worth. -/
noncomputable def Try.pinned : Pinned := { name := "ytdnkoeafnnohnaa", sum := "726d426f30a1c93b7dfd128040850921bd5449d7e3b12a07ab0ac7e987b4eda9", checked := Try.checked }
namespace Rows
def none {H : Type} : Left H := { results := [], args := [] }

/-- 'garblerlaw15.Bcj2Decodes': WHATEVER THE INPUT: true; the input reads as it did. -/
def bcj2DecodesSpec : ChangeSpec := { name := "bcj2Decodes", fn := fun _ => fun
  | [d1, d2] => { results := [.lit (.bool true)], args := [d1, d2] }
  | _ => none }
def bcj2DecodesRow : OpenClaim := { program := "ytdnkoeafnnohnaa", sum := "726d426f30a1c93b7dfd128040850921bd5449d7e3b12a07ab0ac7e987b4eda9", func := "garbler/garblerlaw15.Bcj2Decodes", spec := "bcj2Decodes", unfollowed := true, recurses := true, apart := false }
def Bcj2DecodesSaid : Prop := bcj2DecodesRow.holds Try.pinned (OpenSpec.ofChange bcj2DecodesSpec)

/-- ITS FALSE NEIGHBOUR: 'it returns false'. Refute it at one input. -/
def bcj2DecodesWrong : ChangeSpec := { name := "bcj2Decodes", fn := fun _ => fun
  | [d1, d2] => { results := [.lit (.bool false)], args := [d1, d2] }
  | _ => none }
def Bcj2DecodesWrongFalsely : Prop := bcj2DecodesRow.holds Try.pinned (OpenSpec.ofChange bcj2DecodesWrong)

/-- 'garblerlaw15.Bcj2Codes': WHATEVER THE INPUT: true; the input reads as it did. -/
def bcj2CodesSpec : ChangeSpec := { name := "bcj2Codes", fn := fun _ => fun
  | [d] => { results := [.lit (.bool true)], args := [d] }
  | _ => none }
def bcj2CodesRow : OpenClaim := { program := "ytdnkoeafnnohnaa", sum := "726d426f30a1c93b7dfd128040850921bd5449d7e3b12a07ab0ac7e987b4eda9", func := "garbler/garblerlaw15.Bcj2Codes", spec := "bcj2Codes", unfollowed := true, recurses := true, apart := false }
def Bcj2CodesSaid : Prop := bcj2CodesRow.holds Try.pinned (OpenSpec.ofChange bcj2CodesSpec)

/-- ITS FALSE NEIGHBOUR: 'it returns false'. Refute it at one input. -/
def bcj2CodesWrong : ChangeSpec := { name := "bcj2Codes", fn := fun _ => fun
  | [d] => { results := [.lit (.bool false)], args := [d] }
  | _ => none }
def Bcj2CodesWrongFalsely : Prop := bcj2CodesRow.holds Try.pinned (OpenSpec.ofChange bcj2CodesWrong)

/-- 'garblerlaw15.Bcj2Back': WHATEVER THE INPUT: true; the input reads as it did. -/
def bcj2BackSpec : ChangeSpec := { name := "bcj2Back", fn := fun _ => fun
  | [d1, d2] => { results := [.lit (.bool true)], args := [d1, d2] }
  | _ => none }
def bcj2BackRow : OpenClaim := { program := "ytdnkoeafnnohnaa", sum := "726d426f30a1c93b7dfd128040850921bd5449d7e3b12a07ab0ac7e987b4eda9", func := "garbler/garblerlaw15.Bcj2Back", spec := "bcj2Back", unfollowed := true, recurses := true, apart := false }
def Bcj2BackSaid : Prop := bcj2BackRow.holds Try.pinned (OpenSpec.ofChange bcj2BackSpec)

/-- ITS FALSE NEIGHBOUR: 'it returns false'. Refute it at one input. -/
def bcj2BackWrong : ChangeSpec := { name := "bcj2Back", fn := fun _ => fun
  | [d1, d2] => { results := [.lit (.bool false)], args := [d1, d2] }
  | _ => none }
def Bcj2BackWrongFalsely : Prop := bcj2BackRow.holds Try.pinned (OpenSpec.ofChange bcj2BackWrong)

/-- 'garblerlaw15.Bcj2Flows': WHATEVER THE INPUT: true; the input reads as it did. -/
def bcj2FlowsSpec : ChangeSpec := { name := "bcj2Flows", fn := fun _ => fun
  | [d1, d2] => { results := [.lit (.bool true)], args := [d1, d2] }
  | _ => none }
def bcj2FlowsRow : OpenClaim := { program := "ytdnkoeafnnohnaa", sum := "726d426f30a1c93b7dfd128040850921bd5449d7e3b12a07ab0ac7e987b4eda9", func := "garbler/garblerlaw15.Bcj2Flows", spec := "bcj2Flows", unfollowed := true, recurses := true, apart := false }
def Bcj2FlowsSaid : Prop := bcj2FlowsRow.holds Try.pinned (OpenSpec.ofChange bcj2FlowsSpec)

/-- ITS FALSE NEIGHBOUR: 'it returns false'. Refute it at one input. -/
def bcj2FlowsWrong : ChangeSpec := { name := "bcj2Flows", fn := fun _ => fun
  | [d1, d2] => { results := [.lit (.bool false)], args := [d1, d2] }
  | _ => none }
def Bcj2FlowsWrongFalsely : Prop := bcj2FlowsRow.holds Try.pinned (OpenSpec.ofChange bcj2FlowsWrong)

/-- 'garblerlaw15.Bcj2None': WHATEVER THE INPUT: true; the input reads as it did. -/
def bcj2NoneSpec : ChangeSpec := { name := "bcj2None", fn := fun _ => fun
  | [d] => { results := [.lit (.bool true)], args := [d] }
  | _ => none }
def bcj2NoneRow : OpenClaim := { program := "ytdnkoeafnnohnaa", sum := "726d426f30a1c93b7dfd128040850921bd5449d7e3b12a07ab0ac7e987b4eda9", func := "garbler/garblerlaw15.Bcj2None", spec := "bcj2None", unfollowed := true, recurses := true, apart := false }
def Bcj2NoneSaid : Prop := bcj2NoneRow.holds Try.pinned (OpenSpec.ofChange bcj2NoneSpec)

/-- ITS FALSE NEIGHBOUR: 'it returns false'. Refute it at one input. -/
def bcj2NoneWrong : ChangeSpec := { name := "bcj2None", fn := fun _ => fun
  | [d] => { results := [.lit (.bool false)], args := [d] }
  | _ => none }
def Bcj2NoneWrongFalsely : Prop := bcj2NoneRow.holds Try.pinned (OpenSpec.ofChange bcj2NoneWrong)

/- THE SECOND FORM. 'bulk': how many values and letters a reading holds, each counted each time it is reached (what is shared counts as often as it is met; a slice's spare places count too). A statement '..UptoSaid' is the law's where the arguments, and the package variables that the reading takes, are together of bulk at most 1048576: NARROWER than '..Said'. Prove '..Said' where nothing that the law and all that it calls make is longer than what came in: it says more and counts as full. Else prove '..UptoSaid'. A law counts once. -/
mutual
def uptoBulk {H : Type} : DataW H → Nat
  | .lit (.string bytes) => bytes.length + 1
  | .lit _ => 1
  | .nil => 1
  | .ptr d => uptoBulk d + 1
  | .slice elems spare => uptoBulkAll elems + uptoBulkAll spare + 1
  | .agg parts => uptoBulkAll parts + 1
  | .iface _ d => uptoBulk d + 1
  | .map entries => uptoBulkEntries entries + 1
  | .held _ => 1
def uptoBulkAll {H : Type} : List (DataW H) → Nat
  | [] => 0
  | d :: r => uptoBulk d + uptoBulkAll r
def uptoBulkEntries {H : Type} : List (Lit × DataW H) → Nat
  | [] => 0
  | x :: r => uptoBulkEntry x + uptoBulkEntries r
def uptoBulkEntry {H : Type} : Lit × DataW H → Nat
  | (.string bytes, d) => bytes.length + uptoBulk d + 1
  | (_, d) => uptoBulk d + 1
 end
def uptoSmall : (H : Type) → List (DataW H) → Bool := fun _ ds => decide (uptoBulkAll ds ≤ 1048576)
def OpenSpec.upto (s : _root_.Go.ChangeSpec) : _root_.Go.OpenSpec := { _root_.Go.OpenSpec.ofChange s with cond := some uptoSmall }

/-- 'garblerlaw15.Bcj2Decodes', WHERE WHAT IT READS IS OF BULK AT MOST 1048576: true; the input reads as it did. -/
def bcj2DecodesUptoRow : OpenClaim := { program := "ytdnkoeafnnohnaa", sum := "726d426f30a1c93b7dfd128040850921bd5449d7e3b12a07ab0ac7e987b4eda9", func := "garbler/garblerlaw15.Bcj2Decodes", spec := "bcj2Decodes", unfollowed := true, recurses := true, apart := false, narrowed := true }
def Bcj2DecodesUptoSaid : Prop := bcj2DecodesUptoRow.holds Try.pinned (OpenSpec.upto bcj2DecodesSpec)

/-- 'garblerlaw15.Bcj2Codes', WHERE WHAT IT READS IS OF BULK AT MOST 1048576: true; the input reads as it did. -/
def bcj2CodesUptoRow : OpenClaim := { program := "ytdnkoeafnnohnaa", sum := "726d426f30a1c93b7dfd128040850921bd5449d7e3b12a07ab0ac7e987b4eda9", func := "garbler/garblerlaw15.Bcj2Codes", spec := "bcj2Codes", unfollowed := true, recurses := true, apart := false, narrowed := true }
def Bcj2CodesUptoSaid : Prop := bcj2CodesUptoRow.holds Try.pinned (OpenSpec.upto bcj2CodesSpec)

/-- 'garblerlaw15.Bcj2Back', WHERE WHAT IT READS IS OF BULK AT MOST 1048576: true; the input reads as it did. -/
def bcj2BackUptoRow : OpenClaim := { program := "ytdnkoeafnnohnaa", sum := "726d426f30a1c93b7dfd128040850921bd5449d7e3b12a07ab0ac7e987b4eda9", func := "garbler/garblerlaw15.Bcj2Back", spec := "bcj2Back", unfollowed := true, recurses := true, apart := false, narrowed := true }
def Bcj2BackUptoSaid : Prop := bcj2BackUptoRow.holds Try.pinned (OpenSpec.upto bcj2BackSpec)

/-- 'garblerlaw15.Bcj2Flows', WHERE WHAT IT READS IS OF BULK AT MOST 1048576: true; the input reads as it did. -/
def bcj2FlowsUptoRow : OpenClaim := { program := "ytdnkoeafnnohnaa", sum := "726d426f30a1c93b7dfd128040850921bd5449d7e3b12a07ab0ac7e987b4eda9", func := "garbler/garblerlaw15.Bcj2Flows", spec := "bcj2Flows", unfollowed := true, recurses := true, apart := false, narrowed := true }
def Bcj2FlowsUptoSaid : Prop := bcj2FlowsUptoRow.holds Try.pinned (OpenSpec.upto bcj2FlowsSpec)

/-- 'garblerlaw15.Bcj2None', WHERE WHAT IT READS IS OF BULK AT MOST 1048576: true; the input reads as it did. -/
def bcj2NoneUptoRow : OpenClaim := { program := "ytdnkoeafnnohnaa", sum := "726d426f30a1c93b7dfd128040850921bd5449d7e3b12a07ab0ac7e987b4eda9", func := "garbler/garblerlaw15.Bcj2None", spec := "bcj2None", unfollowed := true, recurses := true, apart := false, narrowed := true }
def Bcj2NoneUptoSaid : Prop := bcj2NoneUptoRow.holds Try.pinned (OpenSpec.upto bcj2NoneSpec)

end Rows
end Go.Proofs.Ytdnkoeafnnohnaa
