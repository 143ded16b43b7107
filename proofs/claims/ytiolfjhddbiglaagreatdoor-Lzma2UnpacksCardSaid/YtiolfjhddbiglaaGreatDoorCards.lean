/-
  DERIVED. GIVEN WITH THE SEED: THE CARDS: each row of YtiolfjhddbiglaaGreatDoorRows.lean that lists a variable, with what it lists TIED to the program's text (the seventh form; the later family's looks); each row that meets fmt, with fmt's text TOLD by the authors' own Lean function (tested against real Go, not proved from fmt's source: count such statements apart). THE CARD IS WHAT COUNTS. Prove the row's statement (the work); the ties are given (YtiolfjhddbiglaaGreatDoorTie.lean); close each card by the builder's one call (the guide's Derived/Test/ToyasCard.lean, 'card_holds'). Laid BY PROGRAM, IN A SANDBOX (cutbox-door.mjs). By AI agents, Wed Nov 11 2026. No macro, syntax, notation, axiom, sorry.
-/
import Derived.Test.YtiolfjhddbiglaaGreatDoorRows
import GoSem.ClaimSeven
namespace Go.Proofs.YtiolfjhddbiglaaGreatDoor
namespace Rows

/-- THE TIED CARD OF 'garblerlaw11.Lzma2Unpacks'. -/
def lzma2UnpacksCard : Claim7 := { stood := { row := lzma2UnpacksRow, standIns := [], harness := (true, "44ee7555c71d06ac9d4dc1f0d23753470f0c12068fb62952e542fe80d6bd3ef0"), looks := false }, kinds := [], alts := [], laidByText := true, laidKinds := [.data], laidTests := true, laidLooks := .later }
def Lzma2UnpacksCardSaid : Prop := Claim7.holds Tryz.pinned (.plain (OpenSpec.ofChange lzma2UnpacksSpec)) lzma2UnpacksCard

/-- THE TIED CARD OF 'garblerlaw11.Lzma2Joins'. -/
def lzma2JoinsCard : Claim7 := { stood := { row := lzma2JoinsRow, standIns := [], harness := (true, "44ee7555c71d06ac9d4dc1f0d23753470f0c12068fb62952e542fe80d6bd3ef0"), looks := false }, kinds := [], alts := [], laidByText := true, laidKinds := [.data], laidTests := true, laidLooks := .later }
def Lzma2JoinsCardSaid : Prop := Claim7.holds Tryz.pinned (.plain (OpenSpec.ofChange lzma2JoinsSpec)) lzma2JoinsCard

/-- THE TIED CARD OF 'garblerlaw11.Lzma2Sizes'. -/
def lzma2SizesCard : Claim7 := { stood := { row := lzma2SizesRow, standIns := [], harness := (true, "44ee7555c71d06ac9d4dc1f0d23753470f0c12068fb62952e542fe80d6bd3ef0"), looks := false }, kinds := [], alts := [], laidByText := true, laidKinds := [.data], laidTests := true, laidLooks := .later }
def Lzma2SizesCardSaid : Prop := Claim7.holds Tryz.pinned (.plain (OpenSpec.ofChange lzma2SizesSpec)) lzma2SizesCard

/-- THE TIED CARD OF 'garblerlaw12.Lzma2cBack'. -/
def lzma2cBackCard : Claim7 := { stood := { row := lzma2cBackRow, standIns := [], harness := (true, "44ee7555c71d06ac9d4dc1f0d23753470f0c12068fb62952e542fe80d6bd3ef0"), looks := false }, kinds := [], alts := [], laidByText := true, laidKinds := [.data], laidTests := true, laidLooks := .later }
def Lzma2cBackCardSaid : Prop := Claim7.holds Tryz.pinned (.plain (OpenSpec.ofChange lzma2cBackSpec)) lzma2cBackCard

/-- THE SECOND FORM's CARD OF 'garblerlaw11.Lzma2Unpacks'. -/
def lzma2UnpacksUptoCard : Claim7 := { stood := { row := lzma2UnpacksUptoRow, standIns := [], harness := (true, "44ee7555c71d06ac9d4dc1f0d23753470f0c12068fb62952e542fe80d6bd3ef0"), looks := false }, kinds := [], alts := [], laidByText := true, laidKinds := [.data], laidTests := true, laidLooks := .later }
def Lzma2UnpacksUptoCardSaid : Prop := Claim7.holds Tryz.pinned (.plain (OpenSpec.upto lzma2UnpacksSpec)) lzma2UnpacksUptoCard

/-- THE SECOND FORM's CARD OF 'garblerlaw11.Lzma2Joins'. -/
def lzma2JoinsUptoCard : Claim7 := { stood := { row := lzma2JoinsUptoRow, standIns := [], harness := (true, "44ee7555c71d06ac9d4dc1f0d23753470f0c12068fb62952e542fe80d6bd3ef0"), looks := false }, kinds := [], alts := [], laidByText := true, laidKinds := [.data], laidTests := true, laidLooks := .later }
def Lzma2JoinsUptoCardSaid : Prop := Claim7.holds Tryz.pinned (.plain (OpenSpec.upto lzma2JoinsSpec)) lzma2JoinsUptoCard

/-- THE SECOND FORM's CARD OF 'garblerlaw11.Lzma2Sizes'. -/
def lzma2SizesUptoCard : Claim7 := { stood := { row := lzma2SizesUptoRow, standIns := [], harness := (true, "44ee7555c71d06ac9d4dc1f0d23753470f0c12068fb62952e542fe80d6bd3ef0"), looks := false }, kinds := [], alts := [], laidByText := true, laidKinds := [.data], laidTests := true, laidLooks := .later }
def Lzma2SizesUptoCardSaid : Prop := Claim7.holds Tryz.pinned (.plain (OpenSpec.upto lzma2SizesSpec)) lzma2SizesUptoCard

/-- THE SECOND FORM's CARD OF 'garblerlaw12.Lzma2cBack'. -/
def lzma2cBackUptoCard : Claim7 := { stood := { row := lzma2cBackUptoRow, standIns := [], harness := (true, "44ee7555c71d06ac9d4dc1f0d23753470f0c12068fb62952e542fe80d6bd3ef0"), looks := false }, kinds := [], alts := [], laidByText := true, laidKinds := [.data], laidTests := true, laidLooks := .later }
def Lzma2cBackUptoCardSaid : Prop := Claim7.holds Tryz.pinned (.plain (OpenSpec.upto lzma2cBackSpec)) lzma2cBackUptoCard
end Rows
end Go.Proofs.YtiolfjhddbiglaaGreatDoor
