/-
  No cell of these rows narrows 'for every input' (looked for: loops, veiled, ifaces, maps, wideKeys, modest, calm, conditions, laid).
  DERIVED. THE GIVEN ROWS OF THIS SEAT. 4 by the template 'for every input the law returns true; each argument reads behind the call as it read before'; 0 by the template 'total and deterministic' (their statements: YtjgdjobhhdhfjaaTotals.lean).
  GIVEN WITH THE SEED: the statements are not yours to turn. If you find one false, say at which input.
  Laid BY PROGRAM, IN A SANDBOX (cutbox-rows.mjs): the forced cells as the released guide's own fill.sh prints them over the translation f6d9e836b4b069eb… (all of the seat's roots in one cut). By AI agents, Wed Nov 11 2026. No macro, syntax, notation, axiom, sorry.
-/
import Derived.Test.YtjgdjobhhdhfjaaChecked
import GoSem.Claim
import GoSem.ClaimJoined
import GoSem.ClaimMapViews
import Derived.JoinedTies
import Derived.KernelRfl
namespace Go.Proofs.Ytjgdjobhhdhfjaa
/- THE CELL 'sum', in the pinned program and in every row, IS THE sha256 OF THE DUMP (.gsa) THAT YtjgdjobhhdhfjaaProg.lean LOADS. Nothing in Lean hashes anything: it is a label: what it is worth is what the hold of that sum in a sandbox is worth. -/
noncomputable def Try.pinned : Pinned := { name := "ytjgdjobhhdhfjaa", sum := "f6d9e836b4b069ebd0daddd33680cca7d2bca7c6aee580b31d49e96f701fbc68", checked := Try.checked }
namespace Rows
def none {H : Type} : Left H := { results := [], args := [] }

/-- 'garblerlaw08.LzmaFront': WHATEVER THE INPUT: true; the input reads as it did. -/
def lzmaFrontSpec : ChangeSpec := { name := "lzmaFront", fn := fun _ => fun
  | [d1, d2, d3] => { results := [.lit (.bool true)], args := [d1, d2, d3] }
  | _ => none }
def lzmaFrontRow : OpenClaim := { program := "ytjgdjobhhdhfjaa", sum := "f6d9e836b4b069ebd0daddd33680cca7d2bca7c6aee580b31d49e96f701fbc68", func := "garbler/garblerlaw08.LzmaFront", spec := "lzmaFront", inPlace := ["sync/atomic.LoadInt64", "sync/atomic.CompareAndSwapInt64"], unfollowed := true, recurses := true, apart := false }
def LzmaFrontSaid : Prop := lzmaFrontRow.holds Try.pinned (OpenSpec.ofChange lzmaFrontSpec)

/-- ITS FALSE NEIGHBOUR: 'it returns false'. Refute it at one input. -/
def lzmaFrontWrong : ChangeSpec := { name := "lzmaFront", fn := fun _ => fun
  | [d1, d2, d3] => { results := [.lit (.bool false)], args := [d1, d2, d3] }
  | _ => none }
def LzmaFrontWrongFalsely : Prop := lzmaFrontRow.holds Try.pinned (OpenSpec.ofChange lzmaFrontWrong)

/-- 'garblerlaw08.LzmaProps': WHATEVER THE INPUT: true; the input reads as it did. -/
def lzmaPropsSpec : ChangeSpec := { name := "lzmaProps", fn := fun _ => fun
  | [d1, d2] => { results := [.lit (.bool true)], args := [d1, d2] }
  | _ => none }
def lzmaPropsRow : OpenClaim := { program := "ytjgdjobhhdhfjaa", sum := "f6d9e836b4b069ebd0daddd33680cca7d2bca7c6aee580b31d49e96f701fbc68", func := "garbler/garblerlaw08.LzmaProps", spec := "lzmaProps", inPlace := ["sync/atomic.LoadInt64", "sync/atomic.CompareAndSwapInt64"], unfollowed := true, recurses := true, apart := false }
def LzmaPropsSaid : Prop := lzmaPropsRow.holds Try.pinned (OpenSpec.ofChange lzmaPropsSpec)

/-- ITS FALSE NEIGHBOUR: 'it returns false'. Refute it at one input. -/
def lzmaPropsWrong : ChangeSpec := { name := "lzmaProps", fn := fun _ => fun
  | [d1, d2] => { results := [.lit (.bool false)], args := [d1, d2] }
  | _ => none }
def LzmaPropsWrongFalsely : Prop := lzmaPropsRow.holds Try.pinned (OpenSpec.ofChange lzmaPropsWrong)

/-- 'garblerlaw08.LzmaMem': WHATEVER THE INPUT: true; the input reads as it did. -/
def lzmaMemSpec : ChangeSpec := { name := "lzmaMem", fn := fun _ => fun
  | [d1, d2, d3] => { results := [.lit (.bool true)], args := [d1, d2, d3] }
  | _ => none }
def lzmaMemRow : OpenClaim := { program := "ytjgdjobhhdhfjaa", sum := "f6d9e836b4b069ebd0daddd33680cca7d2bca7c6aee580b31d49e96f701fbc68", func := "garbler/garblerlaw08.LzmaMem", spec := "lzmaMem", inPlace := ["sync/atomic.LoadInt64", "sync/atomic.CompareAndSwapInt64"], unfollowed := true, recurses := true, apart := false }
def LzmaMemSaid : Prop := lzmaMemRow.holds Try.pinned (OpenSpec.ofChange lzmaMemSpec)

/-- ITS FALSE NEIGHBOUR: 'it returns false'. Refute it at one input. -/
def lzmaMemWrong : ChangeSpec := { name := "lzmaMem", fn := fun _ => fun
  | [d1, d2, d3] => { results := [.lit (.bool false)], args := [d1, d2, d3] }
  | _ => none }
def LzmaMemWrongFalsely : Prop := lzmaMemRow.holds Try.pinned (OpenSpec.ofChange lzmaMemWrong)

/-- 'garblerlaw09.LzmacFirst': WHATEVER THE INPUT: true; the input reads as it did. -/
def lzmacFirstSpec : ChangeSpec := { name := "lzmacFirst", fn := fun _ => fun
  | [d1, d2, d3] => { results := [.lit (.bool true)], args := [d1, d2, d3] }
  | _ => none }
def lzmacFirstRow : OpenClaim := { program := "ytjgdjobhhdhfjaa", sum := "f6d9e836b4b069ebd0daddd33680cca7d2bca7c6aee580b31d49e96f701fbc68", func := "garbler/garblerlaw09.LzmacFirst", spec := "lzmacFirst", apart := false }
def LzmacFirstSaid : Prop := lzmacFirstRow.holds Try.pinned (OpenSpec.ofChange lzmacFirstSpec)

/-- ITS FALSE NEIGHBOUR: 'it returns false'. Refute it at one input. -/
def lzmacFirstWrong : ChangeSpec := { name := "lzmacFirst", fn := fun _ => fun
  | [d1, d2, d3] => { results := [.lit (.bool false)], args := [d1, d2, d3] }
  | _ => none }
def LzmacFirstWrongFalsely : Prop := lzmacFirstRow.holds Try.pinned (OpenSpec.ofChange lzmacFirstWrong)

/- THE SECOND FORM. 'bulk': how many values and letters a reading holds, each counted each time it is reached (what is shared counts as often as it is met; a slice's spare places count too). A statement '..UptoSaid' is the law's where the arguments, and the package variables that the reading takes, are together of bulk at most 1048576: NARROWER than '..Said'. Prove '..Said' where nothing that the law and all that it calls make is longer than what came in: it says more and counts as full. Else prove '..UptoSaid'. A law counts once. -/
mutual
def uptoBulk {H : Type} : DataW H → Nat
  | .lit (.string bytes) => bytes.length + 1
  | .lit _ => 1
  | .nil => 1
  | .ptr d => uptoBulk d + 1
  | .slice elems spare => uptoBulkAll elems + uptoBulkAll spare + 1
  | .agg parts => uptoBulkAll parts + 1
  | .iface _ d => uptoBulk d + 1
  | .map entries => uptoBulkEntries entries + 1
  | .held _ => 1
def uptoBulkAll {H : Type} : List (DataW H) → Nat
  | [] => 0
  | d :: r => uptoBulk d + uptoBulkAll r
def uptoBulkEntries {H : Type} : List (Lit × DataW H) → Nat
  | [] => 0
  | x :: r => uptoBulkEntry x + uptoBulkEntries r
def uptoBulkEntry {H : Type} : Lit × DataW H → Nat
  | (.string bytes, d) => bytes.length + uptoBulk d + 1
  | (_, d) => uptoBulk d + 1
 end
def uptoSmall : (H : Type) → List (DataW H) → Bool := fun _ ds => decide (uptoBulkAll ds ≤ 1048576)
def OpenSpec.upto (s : _root_.Go.ChangeSpec) : _root_.Go.OpenSpec := { _root_.Go.OpenSpec.ofChange s with cond := some uptoSmall }

/-- 'garblerlaw08.LzmaFront', WHERE WHAT IT READS IS OF BULK AT MOST 1048576: true; the input reads as it did. -/
def lzmaFrontUptoRow : OpenClaim := { program := "ytjgdjobhhdhfjaa", sum := "f6d9e836b4b069ebd0daddd33680cca7d2bca7c6aee580b31d49e96f701fbc68", func := "garbler/garblerlaw08.LzmaFront", spec := "lzmaFront", inPlace := ["sync/atomic.LoadInt64", "sync/atomic.CompareAndSwapInt64"], unfollowed := true, recurses := true, apart := false, narrowed := true }
def LzmaFrontUptoSaid : Prop := lzmaFrontUptoRow.holds Try.pinned (OpenSpec.upto lzmaFrontSpec)

/-- 'garblerlaw08.LzmaProps', WHERE WHAT IT READS IS OF BULK AT MOST 1048576: true; the input reads as it did. -/
def lzmaPropsUptoRow : OpenClaim := { program := "ytjgdjobhhdhfjaa", sum := "f6d9e836b4b069ebd0daddd33680cca7d2bca7c6aee580b31d49e96f701fbc68", func := "garbler/garblerlaw08.LzmaProps", spec := "lzmaProps", inPlace := ["sync/atomic.LoadInt64", "sync/atomic.CompareAndSwapInt64"], unfollowed := true, recurses := true, apart := false, narrowed := true }
def LzmaPropsUptoSaid : Prop := lzmaPropsUptoRow.holds Try.pinned (OpenSpec.upto lzmaPropsSpec)

/-- 'garblerlaw08.LzmaMem', WHERE WHAT IT READS IS OF BULK AT MOST 1048576: true; the input reads as it did. -/
def lzmaMemUptoRow : OpenClaim := { program := "ytjgdjobhhdhfjaa", sum := "f6d9e836b4b069ebd0daddd33680cca7d2bca7c6aee580b31d49e96f701fbc68", func := "garbler/garblerlaw08.LzmaMem", spec := "lzmaMem", inPlace := ["sync/atomic.LoadInt64", "sync/atomic.CompareAndSwapInt64"], unfollowed := true, recurses := true, apart := false, narrowed := true }
def LzmaMemUptoSaid : Prop := lzmaMemUptoRow.holds Try.pinned (OpenSpec.upto lzmaMemSpec)

/-- 'garblerlaw09.LzmacFirst', WHERE WHAT IT READS IS OF BULK AT MOST 1048576: true; the input reads as it did. -/
def lzmacFirstUptoRow : OpenClaim := { program := "ytjgdjobhhdhfjaa", sum := "f6d9e836b4b069ebd0daddd33680cca7d2bca7c6aee580b31d49e96f701fbc68", func := "garbler/garblerlaw09.LzmacFirst", spec := "lzmacFirst", apart := false, narrowed := true }
def LzmacFirstUptoSaid : Prop := lzmacFirstUptoRow.holds Try.pinned (OpenSpec.upto lzmacFirstSpec)

end Rows
end Go.Proofs.Ytjgdjobhhdhfjaa
