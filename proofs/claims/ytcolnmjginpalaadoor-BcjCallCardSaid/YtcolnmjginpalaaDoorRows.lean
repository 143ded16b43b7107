/-
  NARROWER THAN 'FOR EVERY INPUT', by the rows' own cells (each row's printed sentence says how): BcjSides: laid · BcjBack: laid · BcjFlows: laid · BcjStays: laid · BcjCall: laid.
  DERIVED. THE GIVEN ROWS OF THIS SEAT. 5 by the template 'for every input the law returns true; each argument reads behind the call as it read before'; 0 by the template 'total and deterministic' (their statements: YtcolnmjginpalaaDoorTotals.lean).
  GIVEN WITH THE SEED: the statements are not yours to turn. If you find one false, say at which input.
  Laid BY PROGRAM, IN A SANDBOX (cutbox-rows.mjs): the forced cells as the released guide's own fill.sh prints them over the translation b3f733e098e74c23… (all of the seat's roots in one cut). By AI agents, Wed Nov 11 2026. No macro, syntax, notation, axiom, sorry.
-/
import Derived.Test.YtcolnmjginpalaaDoorChecked
import GoSem.Claim
import GoSem.ClaimJoined
import GoSem.ClaimMapViews
import Derived.JoinedTies
import Derived.KernelRfl
namespace Go.Proofs.YtcolnmjginpalaaDoor
/- THE CELL 'sum', in the pinned program and in every row, IS THE sha256 OF THE DUMP (.gsa) THAT YtcolnmjginpalaaDoorProg.lean LOADS. Nothing in Lean hashes anything: it is a label: what it is worth is what the hold of that sum in a sandbox is worth. -/
noncomputable def Tryd.pinned : Pinned := { name := "ytcolnmjginpalaadoor", sum := "b3f733e098e74c230bb345de34a97b4bc504dee76adb53986fa76d739c6dc62f", checked := Tryd.checked }
namespace Rows
def none {H : Type} : Left H := { results := [], args := [] }

/- WHAT THE LISTED PACKAGE-LEVEL VARIABLES READ AS WHEN THE CALL BEGINS. Each datum BY PROGRAM (the guide's laid-datum.mjs) off the statement by which the dump's own 'gosem.cut.vars' lays the variable. In a bare row this is a premise. The card (YtcolnmjginpalaaDoorCards.lean) ties it to the program's text. -/
def laid_garbler_bcj_allowed {H : Type} : DataW H := .agg [.lit (.bool true), .lit (.bool true), .lit (.bool true), .lit (.bool false), .lit (.bool true), .lit (.bool false), .lit (.bool false), .lit (.bool false)]
def laid_garbler_bcj_bits {H : Type} : DataW H := .agg [.lit (.int .i64 0), .lit (.int .i64 1), .lit (.int .i64 2), .lit (.int .i64 2), .lit (.int .i64 3), .lit (.int .i64 3), .lit (.int .i64 3), .lit (.int .i64 3)]

/-- 'garblerlaw14.BcjSides': WHATEVER THE INPUT: true; the input reads as it did. -/
def bcjSidesSpec : ChangeSpec := { name := "bcjSides", fn := fun _ => fun
  | [d] => { results := [.lit (.bool true)], args := [d] }
  | _ => none }
def bcjSidesRow : OpenClaim := { program := "ytcolnmjginpalaadoor", sum := "b3f733e098e74c230bb345de34a97b4bc504dee76adb53986fa76d739c6dc62f", func := "garbler/garblerlaw14.BcjSides", spec := "bcjSides", named := ["garbler/bcj.allowed", "garbler/bcj.bits"], apart := false, laid := [("garbler/bcj.allowed", laid_garbler_bcj_allowed), ("garbler/bcj.bits", laid_garbler_bcj_bits)] }
def BcjSidesSaid : Prop := bcjSidesRow.holds Tryd.pinned (OpenSpec.ofChange bcjSidesSpec)

/-- ITS FALSE NEIGHBOUR: 'it returns false'. Refute it at one input. -/
def bcjSidesWrong : ChangeSpec := { name := "bcjSides", fn := fun _ => fun
  | [d] => { results := [.lit (.bool false)], args := [d] }
  | _ => none }
def BcjSidesWrongFalsely : Prop := bcjSidesRow.holds Tryd.pinned (OpenSpec.ofChange bcjSidesWrong)

/-- 'garblerlaw14.BcjBack': WHATEVER THE INPUT: true; the input reads as it did. -/
def bcjBackSpec : ChangeSpec := { name := "bcjBack", fn := fun _ => fun
  | [d] => { results := [.lit (.bool true)], args := [d] }
  | _ => none }
def bcjBackRow : OpenClaim := { program := "ytcolnmjginpalaadoor", sum := "b3f733e098e74c230bb345de34a97b4bc504dee76adb53986fa76d739c6dc62f", func := "garbler/garblerlaw14.BcjBack", spec := "bcjBack", named := ["garbler/bcj.allowed", "garbler/bcj.bits"], apart := false, laid := [("garbler/bcj.allowed", laid_garbler_bcj_allowed), ("garbler/bcj.bits", laid_garbler_bcj_bits)] }
def BcjBackSaid : Prop := bcjBackRow.holds Tryd.pinned (OpenSpec.ofChange bcjBackSpec)

/-- ITS FALSE NEIGHBOUR: 'it returns false'. Refute it at one input. -/
def bcjBackWrong : ChangeSpec := { name := "bcjBack", fn := fun _ => fun
  | [d] => { results := [.lit (.bool false)], args := [d] }
  | _ => none }
def BcjBackWrongFalsely : Prop := bcjBackRow.holds Tryd.pinned (OpenSpec.ofChange bcjBackWrong)

/-- 'garblerlaw14.BcjFlows': WHATEVER THE INPUT: true; the input reads as it did. -/
def bcjFlowsSpec : ChangeSpec := { name := "bcjFlows", fn := fun _ => fun
  | [d] => { results := [.lit (.bool true)], args := [d] }
  | _ => none }
def bcjFlowsRow : OpenClaim := { program := "ytcolnmjginpalaadoor", sum := "b3f733e098e74c230bb345de34a97b4bc504dee76adb53986fa76d739c6dc62f", func := "garbler/garblerlaw14.BcjFlows", spec := "bcjFlows", unfollowed := true, recurses := true, named := ["garbler/bcj.allowed", "garbler/bcj.bits"], apart := false, laid := [("garbler/bcj.allowed", laid_garbler_bcj_allowed), ("garbler/bcj.bits", laid_garbler_bcj_bits)] }
def BcjFlowsSaid : Prop := bcjFlowsRow.holds Tryd.pinned (OpenSpec.ofChange bcjFlowsSpec)

/-- ITS FALSE NEIGHBOUR: 'it returns false'. Refute it at one input. -/
def bcjFlowsWrong : ChangeSpec := { name := "bcjFlows", fn := fun _ => fun
  | [d] => { results := [.lit (.bool false)], args := [d] }
  | _ => none }
def BcjFlowsWrongFalsely : Prop := bcjFlowsRow.holds Tryd.pinned (OpenSpec.ofChange bcjFlowsWrong)

/-- 'garblerlaw14.BcjStays': WHATEVER THE INPUT: true; the input reads as it did. -/
def bcjStaysSpec : ChangeSpec := { name := "bcjStays", fn := fun _ => fun
  | [d] => { results := [.lit (.bool true)], args := [d] }
  | _ => none }
def bcjStaysRow : OpenClaim := { program := "ytcolnmjginpalaadoor", sum := "b3f733e098e74c230bb345de34a97b4bc504dee76adb53986fa76d739c6dc62f", func := "garbler/garblerlaw14.BcjStays", spec := "bcjStays", named := ["garbler/bcj.allowed", "garbler/bcj.bits"], apart := false, laid := [("garbler/bcj.allowed", laid_garbler_bcj_allowed), ("garbler/bcj.bits", laid_garbler_bcj_bits)] }
def BcjStaysSaid : Prop := bcjStaysRow.holds Tryd.pinned (OpenSpec.ofChange bcjStaysSpec)

/-- ITS FALSE NEIGHBOUR: 'it returns false'. Refute it at one input. -/
def bcjStaysWrong : ChangeSpec := { name := "bcjStays", fn := fun _ => fun
  | [d] => { results := [.lit (.bool false)], args := [d] }
  | _ => none }
def BcjStaysWrongFalsely : Prop := bcjStaysRow.holds Tryd.pinned (OpenSpec.ofChange bcjStaysWrong)

/-- 'garblerlaw14.BcjCall': WHATEVER THE INPUT: true; the input reads as it did. -/
def bcjCallSpec : ChangeSpec := { name := "bcjCall", fn := fun _ => fun
  | [d1, d2, d3] => { results := [.lit (.bool true)], args := [d1, d2, d3] }
  | _ => none }
def bcjCallRow : OpenClaim := { program := "ytcolnmjginpalaadoor", sum := "b3f733e098e74c230bb345de34a97b4bc504dee76adb53986fa76d739c6dc62f", func := "garbler/garblerlaw14.BcjCall", spec := "bcjCall", named := ["garbler/bcj.allowed", "garbler/bcj.bits"], apart := false, laid := [("garbler/bcj.allowed", laid_garbler_bcj_allowed), ("garbler/bcj.bits", laid_garbler_bcj_bits)] }
def BcjCallSaid : Prop := bcjCallRow.holds Tryd.pinned (OpenSpec.ofChange bcjCallSpec)

/-- ITS FALSE NEIGHBOUR: 'it returns false'. Refute it at one input. -/
def bcjCallWrong : ChangeSpec := { name := "bcjCall", fn := fun _ => fun
  | [d1, d2, d3] => { results := [.lit (.bool false)], args := [d1, d2, d3] }
  | _ => none }
def BcjCallWrongFalsely : Prop := bcjCallRow.holds Tryd.pinned (OpenSpec.ofChange bcjCallWrong)

/- THE SECOND FORM. 'bulk': how many values and letters a reading holds, each counted each time it is reached (what is shared counts as often as it is met; a slice's spare places count too). A statement '..UptoSaid' is the law's where the arguments, and the package variables that the reading takes, are together of bulk at most 1048576: NARROWER than '..Said'. Prove '..Said' where nothing that the law and all that it calls make is longer than what came in: it says more and counts as full. Else prove '..UptoSaid'. A law counts once. -/
mutual
def uptoBulk {H : Type} : DataW H → Nat
  | .lit (.string bytes) => bytes.length + 1
  | .lit _ => 1
  | .nil => 1
  | .ptr d => uptoBulk d + 1
  | .slice elems spare => uptoBulkAll elems + uptoBulkAll spare + 1
  | .agg parts => uptoBulkAll parts + 1
  | .iface _ d => uptoBulk d + 1
  | .map entries => uptoBulkEntries entries + 1
  | .held _ => 1
def uptoBulkAll {H : Type} : List (DataW H) → Nat
  | [] => 0
  | d :: r => uptoBulk d + uptoBulkAll r
def uptoBulkEntries {H : Type} : List (Lit × DataW H) → Nat
  | [] => 0
  | x :: r => uptoBulkEntry x + uptoBulkEntries r
def uptoBulkEntry {H : Type} : Lit × DataW H → Nat
  | (.string bytes, d) => bytes.length + uptoBulk d + 1
  | (_, d) => uptoBulk d + 1
 end
def uptoSmall : (H : Type) → List (DataW H) → Bool := fun _ ds => decide (uptoBulkAll ds ≤ 1048576)
def OpenSpec.upto (s : _root_.Go.ChangeSpec) : _root_.Go.OpenSpec := { _root_.Go.OpenSpec.ofChange s with cond := some uptoSmall }

/-- 'garblerlaw14.BcjSides', WHERE WHAT IT READS IS OF BULK AT MOST 1048576: true; the input reads as it did. -/
def bcjSidesUptoRow : OpenClaim := { program := "ytcolnmjginpalaadoor", sum := "b3f733e098e74c230bb345de34a97b4bc504dee76adb53986fa76d739c6dc62f", func := "garbler/garblerlaw14.BcjSides", spec := "bcjSides", named := ["garbler/bcj.allowed", "garbler/bcj.bits"], apart := false, laid := [("garbler/bcj.allowed", laid_garbler_bcj_allowed), ("garbler/bcj.bits", laid_garbler_bcj_bits)], narrowed := true }
def BcjSidesUptoSaid : Prop := bcjSidesUptoRow.holds Tryd.pinned (OpenSpec.upto bcjSidesSpec)

/-- 'garblerlaw14.BcjBack', WHERE WHAT IT READS IS OF BULK AT MOST 1048576: true; the input reads as it did. -/
def bcjBackUptoRow : OpenClaim := { program := "ytcolnmjginpalaadoor", sum := "b3f733e098e74c230bb345de34a97b4bc504dee76adb53986fa76d739c6dc62f", func := "garbler/garblerlaw14.BcjBack", spec := "bcjBack", named := ["garbler/bcj.allowed", "garbler/bcj.bits"], apart := false, laid := [("garbler/bcj.allowed", laid_garbler_bcj_allowed), ("garbler/bcj.bits", laid_garbler_bcj_bits)], narrowed := true }
def BcjBackUptoSaid : Prop := bcjBackUptoRow.holds Tryd.pinned (OpenSpec.upto bcjBackSpec)

/-- 'garblerlaw14.BcjFlows', WHERE WHAT IT READS IS OF BULK AT MOST 1048576: true; the input reads as it did. -/
def bcjFlowsUptoRow : OpenClaim := { program := "ytcolnmjginpalaadoor", sum := "b3f733e098e74c230bb345de34a97b4bc504dee76adb53986fa76d739c6dc62f", func := "garbler/garblerlaw14.BcjFlows", spec := "bcjFlows", unfollowed := true, recurses := true, named := ["garbler/bcj.allowed", "garbler/bcj.bits"], apart := false, laid := [("garbler/bcj.allowed", laid_garbler_bcj_allowed), ("garbler/bcj.bits", laid_garbler_bcj_bits)], narrowed := true }
def BcjFlowsUptoSaid : Prop := bcjFlowsUptoRow.holds Tryd.pinned (OpenSpec.upto bcjFlowsSpec)

/-- 'garblerlaw14.BcjStays', WHERE WHAT IT READS IS OF BULK AT MOST 1048576: true; the input reads as it did. -/
def bcjStaysUptoRow : OpenClaim := { program := "ytcolnmjginpalaadoor", sum := "b3f733e098e74c230bb345de34a97b4bc504dee76adb53986fa76d739c6dc62f", func := "garbler/garblerlaw14.BcjStays", spec := "bcjStays", named := ["garbler/bcj.allowed", "garbler/bcj.bits"], apart := false, laid := [("garbler/bcj.allowed", laid_garbler_bcj_allowed), ("garbler/bcj.bits", laid_garbler_bcj_bits)], narrowed := true }
def BcjStaysUptoSaid : Prop := bcjStaysUptoRow.holds Tryd.pinned (OpenSpec.upto bcjStaysSpec)

/-- 'garblerlaw14.BcjCall', WHERE WHAT IT READS IS OF BULK AT MOST 1048576: true; the input reads as it did. -/
def bcjCallUptoRow : OpenClaim := { program := "ytcolnmjginpalaadoor", sum := "b3f733e098e74c230bb345de34a97b4bc504dee76adb53986fa76d739c6dc62f", func := "garbler/garblerlaw14.BcjCall", spec := "bcjCall", named := ["garbler/bcj.allowed", "garbler/bcj.bits"], apart := false, laid := [("garbler/bcj.allowed", laid_garbler_bcj_allowed), ("garbler/bcj.bits", laid_garbler_bcj_bits)], narrowed := true }
def BcjCallUptoSaid : Prop := bcjCallUptoRow.holds Tryd.pinned (OpenSpec.upto bcjCallSpec)

end Rows
end Go.Proofs.YtcolnmjginpalaaDoor
