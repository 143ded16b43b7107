/-
  DERIVED. GIVEN WITH THE SEED: THE CARDS: each row of YtdhhibfppcpieaaGreatDoorRows.lean that lists a variable, with what it lists TIED to the program's text (the seventh form; the later family's looks); each row that meets fmt, with fmt's text TOLD by the authors' own Lean function (tested against real Go, not proved from fmt's source: count such statements apart). THE CARD IS WHAT COUNTS. Prove the row's statement (the work); the ties are given (YtdhhibfppcpieaaGreatDoorTie.lean); close each card by the builder's one call (the guide's Derived/Test/ToyasCard.lean, 'card_holds'). Laid BY PROGRAM, IN A SANDBOX (cutbox-door.mjs). By AI agents, Wed Nov 11 2026. No macro, syntax, notation, axiom, sorry.
-/
import Derived.Test.YtdhhibfppcpieaaGreatDoorRows
import GoSem.ClaimSeven
namespace Go.Proofs.YtdhhibfppcpieaaGreatDoor
namespace Rows

/-- THE TIED CARD OF 'garblerlaw11.Lzma2Unpacks'. -/
def lzma2UnpacksCard : Claim7 := { stood := { row := lzma2UnpacksRow, standIns := [], harness := (true, "862ce942416f55e1098c57f4782ac7eefa3304505bb949bdecf13446b1244f13"), looks := false }, kinds := [], alts := [], laidByText := true, laidKinds := [.data], laidTests := true, laidLooks := .later }
def Lzma2UnpacksCardSaid : Prop := Claim7.holds Tryz.pinned (.plain (OpenSpec.ofChange lzma2UnpacksSpec)) lzma2UnpacksCard

/-- THE TIED CARD OF 'garblerlaw11.Lzma2Plain'. -/
def lzma2PlainCard : Claim7 := { stood := { row := lzma2PlainRow, standIns := [], harness := (true, "862ce942416f55e1098c57f4782ac7eefa3304505bb949bdecf13446b1244f13"), looks := false }, kinds := [], alts := [], laidByText := true, laidKinds := [.data], laidTests := true, laidLooks := .later }
def Lzma2PlainCardSaid : Prop := Claim7.holds Tryz.pinned (.plain (OpenSpec.ofChange lzma2PlainSpec)) lzma2PlainCard

/-- THE TIED CARD OF 'garblerlaw11.Lzma2Joins'. -/
def lzma2JoinsCard : Claim7 := { stood := { row := lzma2JoinsRow, standIns := [], harness := (true, "862ce942416f55e1098c57f4782ac7eefa3304505bb949bdecf13446b1244f13"), looks := false }, kinds := [], alts := [], laidByText := true, laidKinds := [.data], laidTests := true, laidLooks := .later }
def Lzma2JoinsCardSaid : Prop := Claim7.holds Tryz.pinned (.plain (OpenSpec.ofChange lzma2JoinsSpec)) lzma2JoinsCard

/-- THE TIED CARD OF 'garblerlaw11.Lzma2Props'. -/
def lzma2PropsCard : Claim7 := { stood := { row := lzma2PropsRow, standIns := [], harness := (true, "862ce942416f55e1098c57f4782ac7eefa3304505bb949bdecf13446b1244f13"), looks := false }, kinds := [], alts := [], laidByText := true, laidKinds := [.data], laidTests := true, laidLooks := .later }
def Lzma2PropsCardSaid : Prop := Claim7.holds Tryz.pinned (.plain (OpenSpec.ofChange lzma2PropsSpec)) lzma2PropsCard

/-- THE TIED CARD OF 'garblerlaw11.Lzma2Mem'. -/
def lzma2MemCard : Claim7 := { stood := { row := lzma2MemRow, standIns := [], harness := (true, "862ce942416f55e1098c57f4782ac7eefa3304505bb949bdecf13446b1244f13"), looks := false }, kinds := [], alts := [], laidByText := true, laidKinds := [.data], laidTests := true, laidLooks := .later }
def Lzma2MemCardSaid : Prop := Claim7.holds Tryz.pinned (.plain (OpenSpec.ofChange lzma2MemSpec)) lzma2MemCard

/-- THE TIED CARD OF 'garblerlaw11.Lzma2Sizes'. -/
def lzma2SizesCard : Claim7 := { stood := { row := lzma2SizesRow, standIns := [], harness := (true, "862ce942416f55e1098c57f4782ac7eefa3304505bb949bdecf13446b1244f13"), looks := false }, kinds := [], alts := [], laidByText := true, laidKinds := [.data], laidTests := true, laidLooks := .later }
def Lzma2SizesCardSaid : Prop := Claim7.holds Tryz.pinned (.plain (OpenSpec.ofChange lzma2SizesSpec)) lzma2SizesCard

/-- THE TIED CARD OF 'garblerlaw12.Lzma2cBack'. -/
def lzma2cBackCard : Claim7 := { stood := { row := lzma2cBackRow, standIns := [], harness := (true, "862ce942416f55e1098c57f4782ac7eefa3304505bb949bdecf13446b1244f13"), looks := false }, kinds := [], alts := [], laidByText := true, laidKinds := [.data], laidTests := true, laidLooks := .later }
def Lzma2cBackCardSaid : Prop := Claim7.holds Tryz.pinned (.plain (OpenSpec.ofChange lzma2cBackSpec)) lzma2cBackCard

/-- THE SECOND FORM's CARD OF 'garblerlaw11.Lzma2Unpacks'. -/
def lzma2UnpacksUptoCard : Claim7 := { stood := { row := lzma2UnpacksUptoRow, standIns := [], harness := (true, "862ce942416f55e1098c57f4782ac7eefa3304505bb949bdecf13446b1244f13"), looks := false }, kinds := [], alts := [], laidByText := true, laidKinds := [.data], laidTests := true, laidLooks := .later }
def Lzma2UnpacksUptoCardSaid : Prop := Claim7.holds Tryz.pinned (.plain (OpenSpec.upto lzma2UnpacksSpec)) lzma2UnpacksUptoCard

/-- THE SECOND FORM's CARD OF 'garblerlaw11.Lzma2Plain'. -/
def lzma2PlainUptoCard : Claim7 := { stood := { row := lzma2PlainUptoRow, standIns := [], harness := (true, "862ce942416f55e1098c57f4782ac7eefa3304505bb949bdecf13446b1244f13"), looks := false }, kinds := [], alts := [], laidByText := true, laidKinds := [.data], laidTests := true, laidLooks := .later }
def Lzma2PlainUptoCardSaid : Prop := Claim7.holds Tryz.pinned (.plain (OpenSpec.upto lzma2PlainSpec)) lzma2PlainUptoCard

/-- THE SECOND FORM's CARD OF 'garblerlaw11.Lzma2Joins'. -/
def lzma2JoinsUptoCard : Claim7 := { stood := { row := lzma2JoinsUptoRow, standIns := [], harness := (true, "862ce942416f55e1098c57f4782ac7eefa3304505bb949bdecf13446b1244f13"), looks := false }, kinds := [], alts := [], laidByText := true, laidKinds := [.data], laidTests := true, laidLooks := .later }
def Lzma2JoinsUptoCardSaid : Prop := Claim7.holds Tryz.pinned (.plain (OpenSpec.upto lzma2JoinsSpec)) lzma2JoinsUptoCard

/-- THE SECOND FORM's CARD OF 'garblerlaw11.Lzma2Props'. -/
def lzma2PropsUptoCard : Claim7 := { stood := { row := lzma2PropsUptoRow, standIns := [], harness := (true, "862ce942416f55e1098c57f4782ac7eefa3304505bb949bdecf13446b1244f13"), looks := false }, kinds := [], alts := [], laidByText := true, laidKinds := [.data], laidTests := true, laidLooks := .later }
def Lzma2PropsUptoCardSaid : Prop := Claim7.holds Tryz.pinned (.plain (OpenSpec.upto lzma2PropsSpec)) lzma2PropsUptoCard

/-- THE SECOND FORM's CARD OF 'garblerlaw11.Lzma2Mem'. -/
def lzma2MemUptoCard : Claim7 := { stood := { row := lzma2MemUptoRow, standIns := [], harness := (true, "862ce942416f55e1098c57f4782ac7eefa3304505bb949bdecf13446b1244f13"), looks := false }, kinds := [], alts := [], laidByText := true, laidKinds := [.data], laidTests := true, laidLooks := .later }
def Lzma2MemUptoCardSaid : Prop := Claim7.holds Tryz.pinned (.plain (OpenSpec.upto lzma2MemSpec)) lzma2MemUptoCard

/-- THE SECOND FORM's CARD OF 'garblerlaw11.Lzma2Sizes'. -/
def lzma2SizesUptoCard : Claim7 := { stood := { row := lzma2SizesUptoRow, standIns := [], harness := (true, "862ce942416f55e1098c57f4782ac7eefa3304505bb949bdecf13446b1244f13"), looks := false }, kinds := [], alts := [], laidByText := true, laidKinds := [.data], laidTests := true, laidLooks := .later }
def Lzma2SizesUptoCardSaid : Prop := Claim7.holds Tryz.pinned (.plain (OpenSpec.upto lzma2SizesSpec)) lzma2SizesUptoCard

/-- THE SECOND FORM's CARD OF 'garblerlaw12.Lzma2cBack'. -/
def lzma2cBackUptoCard : Claim7 := { stood := { row := lzma2cBackUptoRow, standIns := [], harness := (true, "862ce942416f55e1098c57f4782ac7eefa3304505bb949bdecf13446b1244f13"), looks := false }, kinds := [], alts := [], laidByText := true, laidKinds := [.data], laidTests := true, laidLooks := .later }
def Lzma2cBackUptoCardSaid : Prop := Claim7.holds Tryz.pinned (.plain (OpenSpec.upto lzma2cBackSpec)) lzma2cBackUptoCard
end Rows
end Go.Proofs.YtdhhibfppcpieaaGreatDoor
