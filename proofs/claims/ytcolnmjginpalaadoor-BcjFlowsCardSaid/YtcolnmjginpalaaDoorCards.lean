/-
  DERIVED. GIVEN WITH THE SEED: THE CARDS: each row of YtcolnmjginpalaaDoorRows.lean that lists a variable, with what it lists TIED to the program's text (the seventh form; the later family's looks); each row that meets fmt, with fmt's text TOLD by the authors' own Lean function (tested against real Go, not proved from fmt's source: count such statements apart). THE CARD IS WHAT COUNTS. Prove the row's statement (the work); the ties are given (YtcolnmjginpalaaDoorTie.lean); close each card by the builder's one call (the guide's Derived/Test/ToyasCard.lean, 'card_holds'). Laid BY PROGRAM, IN A SANDBOX (cutbox-door.mjs). By AI agents, Wed Nov 11 2026. No macro, syntax, notation, axiom, sorry.
-/
import Derived.Test.YtcolnmjginpalaaDoorRows
import GoSem.ClaimSeven
namespace Go.Proofs.YtcolnmjginpalaaDoor
namespace Rows

/-- THE TIED CARD OF 'garblerlaw14.BcjSides'. -/
def bcjSidesCard : Claim7 := { stood := { row := bcjSidesRow, standIns := [], harness := (true, "d2f2610756aac45f2390c0c6c5f5a43c4aa3002539cf3a428b066dd5f3524c2b"), looks := false }, kinds := [], alts := [], laidByText := true, laidKinds := [.data, .data], laidTests := true, laidLooks := .later }
def BcjSidesCardSaid : Prop := Claim7.holds Tryd.pinned (.plain (OpenSpec.ofChange bcjSidesSpec)) bcjSidesCard

/-- THE TIED CARD OF 'garblerlaw14.BcjBack'. -/
def bcjBackCard : Claim7 := { stood := { row := bcjBackRow, standIns := [], harness := (true, "d2f2610756aac45f2390c0c6c5f5a43c4aa3002539cf3a428b066dd5f3524c2b"), looks := false }, kinds := [], alts := [], laidByText := true, laidKinds := [.data, .data], laidTests := true, laidLooks := .later }
def BcjBackCardSaid : Prop := Claim7.holds Tryd.pinned (.plain (OpenSpec.ofChange bcjBackSpec)) bcjBackCard

/-- THE TIED CARD OF 'garblerlaw14.BcjFlows'. -/
def bcjFlowsCard : Claim7 := { stood := { row := bcjFlowsRow, standIns := [], harness := (true, "d2f2610756aac45f2390c0c6c5f5a43c4aa3002539cf3a428b066dd5f3524c2b"), looks := false }, kinds := [], alts := [], laidByText := true, laidKinds := [.data, .data], laidTests := true, laidLooks := .later }
def BcjFlowsCardSaid : Prop := Claim7.holds Tryd.pinned (.plain (OpenSpec.ofChange bcjFlowsSpec)) bcjFlowsCard

/-- THE TIED CARD OF 'garblerlaw14.BcjStays'. -/
def bcjStaysCard : Claim7 := { stood := { row := bcjStaysRow, standIns := [], harness := (true, "d2f2610756aac45f2390c0c6c5f5a43c4aa3002539cf3a428b066dd5f3524c2b"), looks := false }, kinds := [], alts := [], laidByText := true, laidKinds := [.data, .data], laidTests := true, laidLooks := .later }
def BcjStaysCardSaid : Prop := Claim7.holds Tryd.pinned (.plain (OpenSpec.ofChange bcjStaysSpec)) bcjStaysCard

/-- THE TIED CARD OF 'garblerlaw14.BcjCall'. -/
def bcjCallCard : Claim7 := { stood := { row := bcjCallRow, standIns := [], harness := (true, "d2f2610756aac45f2390c0c6c5f5a43c4aa3002539cf3a428b066dd5f3524c2b"), looks := false }, kinds := [], alts := [], laidByText := true, laidKinds := [.data, .data], laidTests := true, laidLooks := .later }
def BcjCallCardSaid : Prop := Claim7.holds Tryd.pinned (.plain (OpenSpec.ofChange bcjCallSpec)) bcjCallCard

/-- THE SECOND FORM's CARD OF 'garblerlaw14.BcjSides'. -/
def bcjSidesUptoCard : Claim7 := { stood := { row := bcjSidesUptoRow, standIns := [], harness := (true, "d2f2610756aac45f2390c0c6c5f5a43c4aa3002539cf3a428b066dd5f3524c2b"), looks := false }, kinds := [], alts := [], laidByText := true, laidKinds := [.data, .data], laidTests := true, laidLooks := .later }
def BcjSidesUptoCardSaid : Prop := Claim7.holds Tryd.pinned (.plain (OpenSpec.upto bcjSidesSpec)) bcjSidesUptoCard

/-- THE SECOND FORM's CARD OF 'garblerlaw14.BcjBack'. -/
def bcjBackUptoCard : Claim7 := { stood := { row := bcjBackUptoRow, standIns := [], harness := (true, "d2f2610756aac45f2390c0c6c5f5a43c4aa3002539cf3a428b066dd5f3524c2b"), looks := false }, kinds := [], alts := [], laidByText := true, laidKinds := [.data, .data], laidTests := true, laidLooks := .later }
def BcjBackUptoCardSaid : Prop := Claim7.holds Tryd.pinned (.plain (OpenSpec.upto bcjBackSpec)) bcjBackUptoCard

/-- THE SECOND FORM's CARD OF 'garblerlaw14.BcjFlows'. -/
def bcjFlowsUptoCard : Claim7 := { stood := { row := bcjFlowsUptoRow, standIns := [], harness := (true, "d2f2610756aac45f2390c0c6c5f5a43c4aa3002539cf3a428b066dd5f3524c2b"), looks := false }, kinds := [], alts := [], laidByText := true, laidKinds := [.data, .data], laidTests := true, laidLooks := .later }
def BcjFlowsUptoCardSaid : Prop := Claim7.holds Tryd.pinned (.plain (OpenSpec.upto bcjFlowsSpec)) bcjFlowsUptoCard

/-- THE SECOND FORM's CARD OF 'garblerlaw14.BcjStays'. -/
def bcjStaysUptoCard : Claim7 := { stood := { row := bcjStaysUptoRow, standIns := [], harness := (true, "d2f2610756aac45f2390c0c6c5f5a43c4aa3002539cf3a428b066dd5f3524c2b"), looks := false }, kinds := [], alts := [], laidByText := true, laidKinds := [.data, .data], laidTests := true, laidLooks := .later }
def BcjStaysUptoCardSaid : Prop := Claim7.holds Tryd.pinned (.plain (OpenSpec.upto bcjStaysSpec)) bcjStaysUptoCard

/-- THE SECOND FORM's CARD OF 'garblerlaw14.BcjCall'. -/
def bcjCallUptoCard : Claim7 := { stood := { row := bcjCallUptoRow, standIns := [], harness := (true, "d2f2610756aac45f2390c0c6c5f5a43c4aa3002539cf3a428b066dd5f3524c2b"), looks := false }, kinds := [], alts := [], laidByText := true, laidKinds := [.data, .data], laidTests := true, laidLooks := .later }
def BcjCallUptoCardSaid : Prop := Claim7.holds Tryd.pinned (.plain (OpenSpec.upto bcjCallSpec)) bcjCallUptoCard
end Rows
end Go.Proofs.YtcolnmjginpalaaDoor
