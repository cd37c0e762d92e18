/-
  DERIVED. GIVEN WITH THE SEED: THE CARDS: each row of YtjjggdcnpndgjabGreatDoorRows.lean that lists a variable, with what it lists TIED to the program's text (the seventh form; the later family's looks); each row that meets fmt, with fmt's text TOLD by the authors' own Lean function (tested against real Go, not proved from fmt's source: count such statements apart). THE CARD IS WHAT COUNTS. Prove the row's statement (the work); the ties are given (YtjjggdcnpndgjabGreatDoorTie.lean); close each card by the builder's one call (the guide's Derived/Test/ToyasCard.lean, 'card_holds'). Laid BY PROGRAM, IN A SANDBOX (cutbox-door.mjs). By AI agents, Wed Nov 11 2026. No macro, syntax, notation, axiom, sorry.
-/
import Derived.Test.YtjjggdcnpndgjabGreatDoorRows
import GoSem.ClaimSeven
namespace Go.Proofs.YtjjggdcnpndgjabGreatDoor
namespace Rows

/-- THE TIED CARD OF 'darnkeep.Meant'. -/
def meantCard : Claim7 := { stood := { row := meantRow, standIns := [], harness := (true, "c85d15af4bdbcd7fdbe11a17d7c7ccdc779e1c636cb01bee4f503b5db5af5235"), looks := true }, kinds := [], alts := [], laidByText := true, laidKinds := [.data, .data, .data, .data, .sentinel, .sentinel, .data, .pinned], laidTests := true, laidLooks := .later }
def MeantCardSaid : Prop := Claim7.holds Tryz.pinned (.plain (OpenSpec.ofChange meantSpec)) meantCard

/-- THE SECOND FORM's CARD OF 'darnkeep.Meant'. -/
def meantUptoCard : Claim7 := { stood := { row := meantUptoRow, standIns := [], harness := (true, "c85d15af4bdbcd7fdbe11a17d7c7ccdc779e1c636cb01bee4f503b5db5af5235"), looks := true }, kinds := [], alts := [], laidByText := true, laidKinds := [.data, .data, .data, .data, .sentinel, .sentinel, .data, .pinned], laidTests := true, laidLooks := .later }
def MeantUptoCardSaid : Prop := Claim7.holds Tryz.pinned (.plain (OpenSpec.upto meantSpec)) meantUptoCard
end Rows
end Go.Proofs.YtjjggdcnpndgjabGreatDoor
