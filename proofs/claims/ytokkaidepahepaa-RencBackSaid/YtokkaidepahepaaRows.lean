/-
  No cell of these rows narrows 'for every input' (looked for: loops, veiled, ifaces, maps, wideKeys, modest, calm, conditions, laid).
  DERIVED. THE GIVEN ROWS OF THIS SEAT. 4 by the template 'for every input the law returns true; each argument reads behind the call as it read before'; 0 by the template 'total and deterministic' (their statements: YtokkaidepahepaaTotals.lean).
  GIVEN WITH THE SEED: the statements are not yours to turn. If you find one false, say at which input.
  Laid BY PROGRAM, IN A SANDBOX (cutbox-rows.mjs): the forced cells as the released guide's own fill.sh prints them over the translation 4c87af2f2bf3d34c… (all of the seat's roots in one cut). By AI agents, Wed Nov 11 2026. No macro, syntax, notation, axiom, sorry.
-/
import Derived.Test.YtokkaidepahepaaChecked
import GoSem.Claim
import GoSem.ClaimJoined
import GoSem.ClaimMapViews
import Derived.JoinedTies
import Derived.KernelRfl
namespace Go.Proofs.Ytokkaidepahepaa
/- THE CELL 'sum', in the pinned program and in every row, IS THE sha256 OF THE DUMP (.gsa) THAT YtokkaidepahepaaProg.lean LOADS. Nothing in Lean hashes anything: it is a label: what it is worth is what the hold of that sum in a sandbox is worth. -/
noncomputable def Try.pinned : Pinned := { name := "ytokkaidepahepaa", sum := "4c87af2f2bf3d34c14f4b00427e9894abbd3fe0fb01d1d2d6383ea3a8c0eb448", checked := Try.checked }
namespace Rows
def none {H : Type} : Left H := { results := [], args := [] }

/-- 'garblerlaw05.RencCodes': WHATEVER THE INPUT: true; the input reads as it did. -/
def rencCodesSpec : ChangeSpec := { name := "rencCodes", fn := fun _ => fun
  | [d1, d2] => { results := [.lit (.bool true)], args := [d1, d2] }
  | _ => none }
def rencCodesRow : OpenClaim := { program := "ytokkaidepahepaa", sum := "4c87af2f2bf3d34c14f4b00427e9894abbd3fe0fb01d1d2d6383ea3a8c0eb448", func := "garbler/garblerlaw05.RencCodes", spec := "rencCodes", apart := false }
def RencCodesSaid : Prop := rencCodesRow.holds Try.pinned (OpenSpec.ofChange rencCodesSpec)

/-- ITS FALSE NEIGHBOUR: 'it returns false'. Refute it at one input. -/
def rencCodesWrong : ChangeSpec := { name := "rencCodes", fn := fun _ => fun
  | [d1, d2] => { results := [.lit (.bool false)], args := [d1, d2] }
  | _ => none }
def RencCodesWrongFalsely : Prop := rencCodesRow.holds Try.pinned (OpenSpec.ofChange rencCodesWrong)

/-- 'garblerlaw05.RencBack': WHATEVER THE INPUT: true; the input reads as it did. -/
def rencBackSpec : ChangeSpec := { name := "rencBack", fn := fun _ => fun
  | [d1, d2] => { results := [.lit (.bool true)], args := [d1, d2] }
  | _ => none }
def rencBackRow : OpenClaim := { program := "ytokkaidepahepaa", sum := "4c87af2f2bf3d34c14f4b00427e9894abbd3fe0fb01d1d2d6383ea3a8c0eb448", func := "garbler/garblerlaw05.RencBack", spec := "rencBack", unfollowed := true, recurses := true, apart := false }
def RencBackSaid : Prop := rencBackRow.holds Try.pinned (OpenSpec.ofChange rencBackSpec)

/-- ITS FALSE NEIGHBOUR: 'it returns false'. Refute it at one input. -/
def rencBackWrong : ChangeSpec := { name := "rencBack", fn := fun _ => fun
  | [d1, d2] => { results := [.lit (.bool false)], args := [d1, d2] }
  | _ => none }
def RencBackWrongFalsely : Prop := rencBackRow.holds Try.pinned (OpenSpec.ofChange rencBackWrong)

/-- 'garblerlaw05.RencFirst': WHATEVER THE INPUT: true; the input reads as it did. -/
def rencFirstSpec : ChangeSpec := { name := "rencFirst", fn := fun _ => fun
  | [d] => { results := [.lit (.bool true)], args := [d] }
  | _ => none }
def rencFirstRow : OpenClaim := { program := "ytokkaidepahepaa", sum := "4c87af2f2bf3d34c14f4b00427e9894abbd3fe0fb01d1d2d6383ea3a8c0eb448", func := "garbler/garblerlaw05.RencFirst", spec := "rencFirst", apart := false }
def RencFirstSaid : Prop := rencFirstRow.holds Try.pinned (OpenSpec.ofChange rencFirstSpec)

/-- ITS FALSE NEIGHBOUR: 'it returns false'. Refute it at one input. -/
def rencFirstWrong : ChangeSpec := { name := "rencFirst", fn := fun _ => fun
  | [d] => { results := [.lit (.bool false)], args := [d] }
  | _ => none }
def RencFirstWrongFalsely : Prop := rencFirstRow.holds Try.pinned (OpenSpec.ofChange rencFirstWrong)

/-- 'garblerlaw05.RencLikely': WHATEVER THE INPUT: true; the input reads as it did. -/
def rencLikelySpec : ChangeSpec := { name := "rencLikely", fn := fun _ => fun
  | [d] => { results := [.lit (.bool true)], args := [d] }
  | _ => none }
def rencLikelyRow : OpenClaim := { program := "ytokkaidepahepaa", sum := "4c87af2f2bf3d34c14f4b00427e9894abbd3fe0fb01d1d2d6383ea3a8c0eb448", func := "garbler/garblerlaw05.RencLikely", spec := "rencLikely", apart := false }
def RencLikelySaid : Prop := rencLikelyRow.holds Try.pinned (OpenSpec.ofChange rencLikelySpec)

/-- ITS FALSE NEIGHBOUR: 'it returns false'. Refute it at one input. -/
def rencLikelyWrong : ChangeSpec := { name := "rencLikely", fn := fun _ => fun
  | [d] => { results := [.lit (.bool false)], args := [d] }
  | _ => none }
def RencLikelyWrongFalsely : Prop := rencLikelyRow.holds Try.pinned (OpenSpec.ofChange rencLikelyWrong)

/- THE SECOND FORM. 'bulk': how many values and letters a reading holds, each counted each time it is reached (what is shared counts as often as it is met; a slice's spare places count too). A statement '..UptoSaid' is the law's where the arguments, and the package variables that the reading takes, are together of bulk at most 1048576: NARROWER than '..Said'. Prove '..Said' where nothing that the law and all that it calls make is longer than what came in: it says more and counts as full. Else prove '..UptoSaid'. A law counts once. -/
mutual
def uptoBulk {H : Type} : DataW H → Nat
  | .lit (.string bytes) => bytes.length + 1
  | .lit _ => 1
  | .nil => 1
  | .ptr d => uptoBulk d + 1
  | .slice elems spare => uptoBulkAll elems + uptoBulkAll spare + 1
  | .agg parts => uptoBulkAll parts + 1
  | .iface _ d => uptoBulk d + 1
  | .map entries => uptoBulkEntries entries + 1
  | .held _ => 1
def uptoBulkAll {H : Type} : List (DataW H) → Nat
  | [] => 0
  | d :: r => uptoBulk d + uptoBulkAll r
def uptoBulkEntries {H : Type} : List (Lit × DataW H) → Nat
  | [] => 0
  | x :: r => uptoBulkEntry x + uptoBulkEntries r
def uptoBulkEntry {H : Type} : Lit × DataW H → Nat
  | (.string bytes, d) => bytes.length + uptoBulk d + 1
  | (_, d) => uptoBulk d + 1
 end
def uptoSmall : (H : Type) → List (DataW H) → Bool := fun _ ds => decide (uptoBulkAll ds ≤ 1048576)
def OpenSpec.upto (s : _root_.Go.ChangeSpec) : _root_.Go.OpenSpec := { _root_.Go.OpenSpec.ofChange s with cond := some uptoSmall }

/-- 'garblerlaw05.RencCodes', WHERE WHAT IT READS IS OF BULK AT MOST 1048576: true; the input reads as it did. -/
def rencCodesUptoRow : OpenClaim := { program := "ytokkaidepahepaa", sum := "4c87af2f2bf3d34c14f4b00427e9894abbd3fe0fb01d1d2d6383ea3a8c0eb448", func := "garbler/garblerlaw05.RencCodes", spec := "rencCodes", apart := false, narrowed := true }
def RencCodesUptoSaid : Prop := rencCodesUptoRow.holds Try.pinned (OpenSpec.upto rencCodesSpec)

/-- 'garblerlaw05.RencBack', WHERE WHAT IT READS IS OF BULK AT MOST 1048576: true; the input reads as it did. -/
def rencBackUptoRow : OpenClaim := { program := "ytokkaidepahepaa", sum := "4c87af2f2bf3d34c14f4b00427e9894abbd3fe0fb01d1d2d6383ea3a8c0eb448", func := "garbler/garblerlaw05.RencBack", spec := "rencBack", unfollowed := true, recurses := true, apart := false, narrowed := true }
def RencBackUptoSaid : Prop := rencBackUptoRow.holds Try.pinned (OpenSpec.upto rencBackSpec)

/-- 'garblerlaw05.RencFirst', WHERE WHAT IT READS IS OF BULK AT MOST 1048576: true; the input reads as it did. -/
def rencFirstUptoRow : OpenClaim := { program := "ytokkaidepahepaa", sum := "4c87af2f2bf3d34c14f4b00427e9894abbd3fe0fb01d1d2d6383ea3a8c0eb448", func := "garbler/garblerlaw05.RencFirst", spec := "rencFirst", apart := false, narrowed := true }
def RencFirstUptoSaid : Prop := rencFirstUptoRow.holds Try.pinned (OpenSpec.upto rencFirstSpec)

/-- 'garblerlaw05.RencLikely', WHERE WHAT IT READS IS OF BULK AT MOST 1048576: true; the input reads as it did. -/
def rencLikelyUptoRow : OpenClaim := { program := "ytokkaidepahepaa", sum := "4c87af2f2bf3d34c14f4b00427e9894abbd3fe0fb01d1d2d6383ea3a8c0eb448", func := "garbler/garblerlaw05.RencLikely", spec := "rencLikely", apart := false, narrowed := true }
def RencLikelyUptoSaid : Prop := rencLikelyUptoRow.holds Try.pinned (OpenSpec.upto rencLikelySpec)

end Rows
end Go.Proofs.Ytokkaidepahepaa
