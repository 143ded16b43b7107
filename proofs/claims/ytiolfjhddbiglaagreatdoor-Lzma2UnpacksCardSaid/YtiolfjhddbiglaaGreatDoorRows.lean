/-
  NARROWER THAN 'FOR EVERY INPUT', by the rows' own cells (each row's printed sentence says how): Lzma2Unpacks: laid · Lzma2Joins: laid · Lzma2Sizes: laid · Lzma2cBack: laid.
  DERIVED. THE GIVEN ROWS OF THIS SEAT. 4 by the template 'for every input the law returns true; each argument reads behind the call as it read before'; 0 by the template 'total and deterministic' (their statements: YtiolfjhddbiglaaGreatDoorTotals.lean).
  GIVEN WITH THE SEED: the statements are not yours to turn. If you find one false, say at which input.
  Laid BY PROGRAM, IN A SANDBOX (cutbox-rows.mjs): the forced cells as the released guide's own fill.sh prints them over the translation d6254ceeac490e19… (all of the seat's roots in one cut). By AI agents, Wed Nov 11 2026. No macro, syntax, notation, axiom, sorry.
-/
import Derived.Test.YtiolfjhddbiglaaGreatDoorChecked
import GoSem.Claim
import GoSem.ClaimJoined
import GoSem.ClaimMapViews
import Derived.JoinedTies
import Derived.KernelRfl
namespace Go.Proofs.YtiolfjhddbiglaaGreatDoor
/- THE CELL 'sum', in the pinned program and in every row, IS THE sha256 OF THE DUMP (.gsa) THAT YtiolfjhddbiglaaGreatDoorProg.lean LOADS. Nothing in Lean hashes anything: it is a label: what it is worth is what the hold of that sum in a sandbox is worth. -/
noncomputable def Tryz.pinned : Pinned := { name := "ytiolfjhddbiglaagreatdoor", sum := "d6254ceeac490e19c5355fd5f96a70f02e3c3752d8f1478e1aac729a44c2546a", checked := Tryz.checked }
namespace Rows
def none {H : Type} : Left H := { results := [], args := [] }

/- WHAT THE LISTED PACKAGE-LEVEL VARIABLES READ AS WHEN THE CALL BEGINS. Each datum BY PROGRAM (the guide's laid-datum.mjs) off the statement by which the dump's own 'gosem.cut.vars' lays the variable. In a bare row this is a premise. The card (YtiolfjhddbiglaaGreatDoorCards.lean) ties it to the program's text. -/
def laid_garbler_lzma2_brings {H : Type} : DataW H := .agg [.lit (.int .u8 0), .lit (.int .u8 4), .lit (.int .u8 6), .lit (.int .u8 7)]

/-- 'garblerlaw11.Lzma2Unpacks': WHATEVER THE INPUT: true; the input reads as it did. -/
def lzma2UnpacksSpec : ChangeSpec := { name := "lzma2Unpacks", fn := fun _ => fun
  | [d1, d2, d3] => { results := [.lit (.bool true)], args := [d1, d2, d3] }
  | _ => none }
def lzma2UnpacksRow : OpenClaim := { program := "ytiolfjhddbiglaagreatdoor", sum := "d6254ceeac490e19c5355fd5f96a70f02e3c3752d8f1478e1aac729a44c2546a", func := "garbler/garblerlaw11.Lzma2Unpacks", spec := "lzma2Unpacks", inPlace := ["sync/atomic.LoadInt64", "sync/atomic.CompareAndSwapInt64"], unfollowed := true, recurses := true, named := ["garbler/lzma2.brings"], apart := false, laid := [("garbler/lzma2.brings", laid_garbler_lzma2_brings)] }
def Lzma2UnpacksSaid : Prop := lzma2UnpacksRow.holds Tryz.pinned (OpenSpec.ofChange lzma2UnpacksSpec)

/-- ITS FALSE NEIGHBOUR: 'it returns false'. Refute it at one input. -/
def lzma2UnpacksWrong : ChangeSpec := { name := "lzma2Unpacks", fn := fun _ => fun
  | [d1, d2, d3] => { results := [.lit (.bool false)], args := [d1, d2, d3] }
  | _ => none }
def Lzma2UnpacksWrongFalsely : Prop := lzma2UnpacksRow.holds Tryz.pinned (OpenSpec.ofChange lzma2UnpacksWrong)

/-- 'garblerlaw11.Lzma2Joins': WHATEVER THE INPUT: true; the input reads as it did. -/
def lzma2JoinsSpec : ChangeSpec := { name := "lzma2Joins", fn := fun _ => fun
  | [d1, d2, d3] => { results := [.lit (.bool true)], args := [d1, d2, d3] }
  | _ => none }
def lzma2JoinsRow : OpenClaim := { program := "ytiolfjhddbiglaagreatdoor", sum := "d6254ceeac490e19c5355fd5f96a70f02e3c3752d8f1478e1aac729a44c2546a", func := "garbler/garblerlaw11.Lzma2Joins", spec := "lzma2Joins", inPlace := ["sync/atomic.LoadInt64", "sync/atomic.CompareAndSwapInt64"], unfollowed := true, recurses := true, named := ["garbler/lzma2.brings"], apart := false, laid := [("garbler/lzma2.brings", laid_garbler_lzma2_brings)] }
def Lzma2JoinsSaid : Prop := lzma2JoinsRow.holds Tryz.pinned (OpenSpec.ofChange lzma2JoinsSpec)

/-- ITS FALSE NEIGHBOUR: 'it returns false'. Refute it at one input. -/
def lzma2JoinsWrong : ChangeSpec := { name := "lzma2Joins", fn := fun _ => fun
  | [d1, d2, d3] => { results := [.lit (.bool false)], args := [d1, d2, d3] }
  | _ => none }
def Lzma2JoinsWrongFalsely : Prop := lzma2JoinsRow.holds Tryz.pinned (OpenSpec.ofChange lzma2JoinsWrong)

/-- 'garblerlaw11.Lzma2Sizes': WHATEVER THE INPUT: true; the input reads as it did. -/
def lzma2SizesSpec : ChangeSpec := { name := "lzma2Sizes", fn := fun _ => fun
  | [d1, d2, d3] => { results := [.lit (.bool true)], args := [d1, d2, d3] }
  | _ => none }
def lzma2SizesRow : OpenClaim := { program := "ytiolfjhddbiglaagreatdoor", sum := "d6254ceeac490e19c5355fd5f96a70f02e3c3752d8f1478e1aac729a44c2546a", func := "garbler/garblerlaw11.Lzma2Sizes", spec := "lzma2Sizes", inPlace := ["sync/atomic.LoadInt64", "sync/atomic.CompareAndSwapInt64"], unfollowed := true, recurses := true, named := ["garbler/lzma2.brings"], apart := false, laid := [("garbler/lzma2.brings", laid_garbler_lzma2_brings)] }
def Lzma2SizesSaid : Prop := lzma2SizesRow.holds Tryz.pinned (OpenSpec.ofChange lzma2SizesSpec)

/-- ITS FALSE NEIGHBOUR: 'it returns false'. Refute it at one input. -/
def lzma2SizesWrong : ChangeSpec := { name := "lzma2Sizes", fn := fun _ => fun
  | [d1, d2, d3] => { results := [.lit (.bool false)], args := [d1, d2, d3] }
  | _ => none }
def Lzma2SizesWrongFalsely : Prop := lzma2SizesRow.holds Tryz.pinned (OpenSpec.ofChange lzma2SizesWrong)

/-- 'garblerlaw12.Lzma2cBack': WHATEVER THE INPUT: true; the input reads as it did. -/
def lzma2cBackSpec : ChangeSpec := { name := "lzma2cBack", fn := fun _ => fun
  | [d1, d2, d3] => { results := [.lit (.bool true)], args := [d1, d2, d3] }
  | _ => none }
def lzma2cBackRow : OpenClaim := { program := "ytiolfjhddbiglaagreatdoor", sum := "d6254ceeac490e19c5355fd5f96a70f02e3c3752d8f1478e1aac729a44c2546a", func := "garbler/garblerlaw12.Lzma2cBack", spec := "lzma2cBack", inPlace := ["sync/atomic.LoadInt64", "sync/atomic.CompareAndSwapInt64"], unfollowed := true, recurses := true, named := ["garbler/lzma2.brings"], apart := false, laid := [("garbler/lzma2.brings", laid_garbler_lzma2_brings)] }
def Lzma2cBackSaid : Prop := lzma2cBackRow.holds Tryz.pinned (OpenSpec.ofChange lzma2cBackSpec)

/-- ITS FALSE NEIGHBOUR: 'it returns false'. Refute it at one input. -/
def lzma2cBackWrong : ChangeSpec := { name := "lzma2cBack", fn := fun _ => fun
  | [d1, d2, d3] => { results := [.lit (.bool false)], args := [d1, d2, d3] }
  | _ => none }
def Lzma2cBackWrongFalsely : Prop := lzma2cBackRow.holds Tryz.pinned (OpenSpec.ofChange lzma2cBackWrong)

/- THE SECOND FORM. 'bulk': how many values and letters a reading holds, each counted each time it is reached (what is shared counts as often as it is met; a slice's spare places count too). A statement '..UptoSaid' is the law's where the arguments, and the package variables that the reading takes, are together of bulk at most 1048576: NARROWER than '..Said'. Prove '..Said' where nothing that the law and all that it calls make is longer than what came in: it says more and counts as full. Else prove '..UptoSaid'. A law counts once. -/
mutual
def uptoBulk {H : Type} : DataW H → Nat
  | .lit (.string bytes) => bytes.length + 1
  | .lit _ => 1
  | .nil => 1
  | .ptr d => uptoBulk d + 1
  | .slice elems spare => uptoBulkAll elems + uptoBulkAll spare + 1
  | .agg parts => uptoBulkAll parts + 1
  | .iface _ d => uptoBulk d + 1
  | .map entries => uptoBulkEntries entries + 1
  | .held _ => 1
def uptoBulkAll {H : Type} : List (DataW H) → Nat
  | [] => 0
  | d :: r => uptoBulk d + uptoBulkAll r
def uptoBulkEntries {H : Type} : List (Lit × DataW H) → Nat
  | [] => 0
  | x :: r => uptoBulkEntry x + uptoBulkEntries r
def uptoBulkEntry {H : Type} : Lit × DataW H → Nat
  | (.string bytes, d) => bytes.length + uptoBulk d + 1
  | (_, d) => uptoBulk d + 1
 end
def uptoSmall : (H : Type) → List (DataW H) → Bool := fun _ ds => decide (uptoBulkAll ds ≤ 1048576)
def OpenSpec.upto (s : _root_.Go.ChangeSpec) : _root_.Go.OpenSpec := { _root_.Go.OpenSpec.ofChange s with cond := some uptoSmall }

/-- 'garblerlaw11.Lzma2Unpacks', WHERE WHAT IT READS IS OF BULK AT MOST 1048576: true; the input reads as it did. -/
def lzma2UnpacksUptoRow : OpenClaim := { program := "ytiolfjhddbiglaagreatdoor", sum := "d6254ceeac490e19c5355fd5f96a70f02e3c3752d8f1478e1aac729a44c2546a", func := "garbler/garblerlaw11.Lzma2Unpacks", spec := "lzma2Unpacks", inPlace := ["sync/atomic.LoadInt64", "sync/atomic.CompareAndSwapInt64"], unfollowed := true, recurses := true, named := ["garbler/lzma2.brings"], apart := false, laid := [("garbler/lzma2.brings", laid_garbler_lzma2_brings)], narrowed := true }
def Lzma2UnpacksUptoSaid : Prop := lzma2UnpacksUptoRow.holds Tryz.pinned (OpenSpec.upto lzma2UnpacksSpec)

/-- 'garblerlaw11.Lzma2Joins', WHERE WHAT IT READS IS OF BULK AT MOST 1048576: true; the input reads as it did. -/
def lzma2JoinsUptoRow : OpenClaim := { program := "ytiolfjhddbiglaagreatdoor", sum := "d6254ceeac490e19c5355fd5f96a70f02e3c3752d8f1478e1aac729a44c2546a", func := "garbler/garblerlaw11.Lzma2Joins", spec := "lzma2Joins", inPlace := ["sync/atomic.LoadInt64", "sync/atomic.CompareAndSwapInt64"], unfollowed := true, recurses := true, named := ["garbler/lzma2.brings"], apart := false, laid := [("garbler/lzma2.brings", laid_garbler_lzma2_brings)], narrowed := true }
def Lzma2JoinsUptoSaid : Prop := lzma2JoinsUptoRow.holds Tryz.pinned (OpenSpec.upto lzma2JoinsSpec)

/-- 'garblerlaw11.Lzma2Sizes', WHERE WHAT IT READS IS OF BULK AT MOST 1048576: true; the input reads as it did. -/
def lzma2SizesUptoRow : OpenClaim := { program := "ytiolfjhddbiglaagreatdoor", sum := "d6254ceeac490e19c5355fd5f96a70f02e3c3752d8f1478e1aac729a44c2546a", func := "garbler/garblerlaw11.Lzma2Sizes", spec := "lzma2Sizes", inPlace := ["sync/atomic.LoadInt64", "sync/atomic.CompareAndSwapInt64"], unfollowed := true, recurses := true, named := ["garbler/lzma2.brings"], apart := false, laid := [("garbler/lzma2.brings", laid_garbler_lzma2_brings)], narrowed := true }
def Lzma2SizesUptoSaid : Prop := lzma2SizesUptoRow.holds Tryz.pinned (OpenSpec.upto lzma2SizesSpec)

/-- 'garblerlaw12.Lzma2cBack', WHERE WHAT IT READS IS OF BULK AT MOST 1048576: true; the input reads as it did. -/
def lzma2cBackUptoRow : OpenClaim := { program := "ytiolfjhddbiglaagreatdoor", sum := "d6254ceeac490e19c5355fd5f96a70f02e3c3752d8f1478e1aac729a44c2546a", func := "garbler/garblerlaw12.Lzma2cBack", spec := "lzma2cBack", inPlace := ["sync/atomic.LoadInt64", "sync/atomic.CompareAndSwapInt64"], unfollowed := true, recurses := true, named := ["garbler/lzma2.brings"], apart := false, laid := [("garbler/lzma2.brings", laid_garbler_lzma2_brings)], narrowed := true }
def Lzma2cBackUptoSaid : Prop := lzma2cBackUptoRow.holds Tryz.pinned (OpenSpec.upto lzma2cBackSpec)

end Rows
end Go.Proofs.YtiolfjhddbiglaaGreatDoor
