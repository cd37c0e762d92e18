/-
  DERIVED. GIVEN WITH THE SEED: THE CARDS: each row of YtjjggdcnpndgjaaGreatDoorRows.lean that lists a variable, with what it lists TIED to the program's text (the seventh form; the later family's looks); each row that meets fmt, with fmt's text TOLD by the authors' own Lean function (tested against real Go, not proved from fmt's source: count such statements apart). THE CARD IS WHAT COUNTS. Prove the row's statement (the work); the ties are given (YtjjggdcnpndgjaaGreatDoorTie.lean); close each card by the builder's one call (the guide's Derived/Test/ToyasCard.lean, 'card_holds'). Laid BY PROGRAM, IN A SANDBOX (cutbox-door.mjs). By AI agents, Wed Nov 11 2026. No macro, syntax, notation, axiom, sorry.
-/
import Derived.Test.YtjjggdcnpndgjaaGreatDoorRows
import GoSem.ClaimSeven
namespace Go.Proofs.YtjjggdcnpndgjaaGreatDoor
namespace Rows

/-- THE TIED CARD OF 'darnlaw.Tells'. -/
def tellsCard : Claim7 := { stood := { row := tellsRow, standIns := [], harness := (true, "c9c3fe74499e58beac445d411117eab16a2828fa7b3ce4a95fc7401a953c2664"), looks := true }, kinds := [], alts := [], laidByText := true, laidKinds := [.data, .data, .data, .data, .sentinel, .sentinel, .data, .pinned], laidTests := true, laidLooks := .later }
def TellsCardSaid : Prop := Claim7.holds Tryz.pinned (.plain (OpenSpec.ofChange tellsSpec)) tellsCard

/-- THE TIED CARD OF 'darnlaw.Clashes'. -/
def clashesCard : Claim7 := { stood := { row := clashesRow, standIns := [], harness := (true, "c9c3fe74499e58beac445d411117eab16a2828fa7b3ce4a95fc7401a953c2664"), looks := true }, kinds := [], alts := [], laidByText := true, laidKinds := [.data, .data, .data, .data, .sentinel, .sentinel, .data, .pinned], laidTests := true, laidLooks := .later }
def ClashesCardSaid : Prop := Claim7.holds Tryz.pinned (.plain (OpenSpec.ofChange clashesSpec)) clashesCard

/-- THE TIED CARD OF 'darnlaw.Compiles'. -/
def compilesCard : Claim7 := { stood := { row := compilesRow, standIns := [], harness := (true, "c9c3fe74499e58beac445d411117eab16a2828fa7b3ce4a95fc7401a953c2664"), looks := true }, kinds := [], alts := [], laidByText := true, laidKinds := [.data, .data, .data, .data, .sentinel, .sentinel, .data, .pinned], laidTests := true, laidLooks := .later }
def CompilesCardSaid : Prop := Claim7.holds Tryz.pinned (.plain (OpenSpec.ofChange compilesSpec)) compilesCard

/-- THE TIED CARD OF 'darnlaw.Reads'. -/
def readsCard : Claim7 := { stood := { row := readsRow, standIns := [], harness := (true, "c9c3fe74499e58beac445d411117eab16a2828fa7b3ce4a95fc7401a953c2664"), looks := true }, kinds := [], alts := [], laidByText := true, laidKinds := [.data, .data, .data, .data, .sentinel, .sentinel, .data, .pinned], laidTests := true, laidLooks := .later }
def ReadsCardSaid : Prop := Claim7.holds Tryz.pinned (.plain (OpenSpec.ofChange readsSpec)) readsCard

/-- THE TIED CARD OF 'darnlaw.Mends'. -/
def mendsCard : Claim7 := { stood := { row := mendsRow, standIns := [], harness := (true, "c9c3fe74499e58beac445d411117eab16a2828fa7b3ce4a95fc7401a953c2664"), looks := true }, kinds := [], alts := [], laidByText := true, laidKinds := [.data, .data, .data, .data, .sentinel, .sentinel, .data, .pinned], laidTests := true, laidLooks := .later }
def MendsCardSaid : Prop := Claim7.holds Tryz.pinned (.plain (OpenSpec.ofChange mendsSpec)) mendsCard

/-- THE TIED CARD OF 'darnlaw.Steady'. -/
def steadyCard : Claim7 := { stood := { row := steadyRow, standIns := [], harness := (true, "c9c3fe74499e58beac445d411117eab16a2828fa7b3ce4a95fc7401a953c2664"), looks := true }, kinds := [], alts := [], laidByText := true, laidKinds := [.data, .data, .data, .data, .sentinel, .sentinel, .data, .pinned], laidTests := true, laidLooks := .later }
def SteadyCardSaid : Prop := Claim7.holds Tryz.pinned (.plain (OpenSpec.ofChange steadySpec)) steadyCard

/-- THE TIED CARD OF 'darnlaw.All'. -/
def allCard : Claim7 := { stood := { row := allRow, standIns := [], harness := (true, "c9c3fe74499e58beac445d411117eab16a2828fa7b3ce4a95fc7401a953c2664"), looks := true }, kinds := [], alts := [], laidByText := true, laidKinds := [.data, .data, .data, .data, .sentinel, .sentinel, .data, .pinned], laidTests := true, laidLooks := .later }
def AllCardSaid : Prop := Claim7.holds Tryz.pinned (.plain (OpenSpec.ofChange allSpec)) allCard

/-- THE TIED CARD OF 'darnkeep.Known'. -/
def knownCard : Claim7 := { stood := { row := knownRow, standIns := [], harness := (true, "c9c3fe74499e58beac445d411117eab16a2828fa7b3ce4a95fc7401a953c2664"), looks := true }, kinds := [], alts := [], laidByText := true, laidKinds := [.data, .data, .data, .data, .sentinel, .sentinel, .data, .pinned], laidTests := true, laidLooks := .later }
def KnownCardSaid : Prop := Claim7.holds Tryz.pinned (.plain (OpenSpec.ofChange knownSpec)) knownCard

/-- THE TIED CARD OF 'darnkeep.Kept'. -/
def keptCard : Claim7 := { stood := { row := keptRow, standIns := [], harness := (true, "c9c3fe74499e58beac445d411117eab16a2828fa7b3ce4a95fc7401a953c2664"), looks := true }, kinds := [], alts := [], laidByText := true, laidKinds := [.data, .data, .data, .data, .sentinel, .sentinel, .data, .pinned], laidTests := true, laidLooks := .later }
def KeptCardSaid : Prop := Claim7.holds Tryz.pinned (.plain (OpenSpec.ofChange keptSpec)) keptCard

/-- THE TIED CARD OF 'darnkeep.Cheap'. -/
def cheapCard : Claim7 := { stood := { row := cheapRow, standIns := [], harness := (true, "c9c3fe74499e58beac445d411117eab16a2828fa7b3ce4a95fc7401a953c2664"), looks := true }, kinds := [], alts := [], laidByText := true, laidKinds := [.data, .data, .data, .data, .sentinel, .sentinel, .data, .pinned], laidTests := true, laidLooks := .later }
def CheapCardSaid : Prop := Claim7.holds Tryz.pinned (.plain (OpenSpec.ofChange cheapSpec)) cheapCard

/-- THE TIED CARD OF 'darnkeep.Hurt'. -/
def hurtCard : Claim7 := { stood := { row := hurtRow, standIns := [], harness := (true, "c9c3fe74499e58beac445d411117eab16a2828fa7b3ce4a95fc7401a953c2664"), looks := true }, kinds := [], alts := [], laidByText := true, laidKinds := [.data, .data, .data, .data, .sentinel, .sentinel, .data, .pinned], laidTests := true, laidLooks := .later }
def HurtCardSaid : Prop := Claim7.holds Tryz.pinned (.plain (OpenSpec.ofChange hurtSpec)) hurtCard

/-- THE SECOND FORM's CARD OF 'darnlaw.Tells'. -/
def tellsUptoCard : Claim7 := { stood := { row := tellsUptoRow, standIns := [], harness := (true, "c9c3fe74499e58beac445d411117eab16a2828fa7b3ce4a95fc7401a953c2664"), looks := true }, kinds := [], alts := [], laidByText := true, laidKinds := [.data, .data, .data, .data, .sentinel, .sentinel, .data, .pinned], laidTests := true, laidLooks := .later }
def TellsUptoCardSaid : Prop := Claim7.holds Tryz.pinned (.plain (OpenSpec.upto tellsSpec)) tellsUptoCard

/-- THE SECOND FORM's CARD OF 'darnlaw.Clashes'. -/
def clashesUptoCard : Claim7 := { stood := { row := clashesUptoRow, standIns := [], harness := (true, "c9c3fe74499e58beac445d411117eab16a2828fa7b3ce4a95fc7401a953c2664"), looks := true }, kinds := [], alts := [], laidByText := true, laidKinds := [.data, .data, .data, .data, .sentinel, .sentinel, .data, .pinned], laidTests := true, laidLooks := .later }
def ClashesUptoCardSaid : Prop := Claim7.holds Tryz.pinned (.plain (OpenSpec.upto clashesSpec)) clashesUptoCard

/-- THE SECOND FORM's CARD OF 'darnlaw.Compiles'. -/
def compilesUptoCard : Claim7 := { stood := { row := compilesUptoRow, standIns := [], harness := (true, "c9c3fe74499e58beac445d411117eab16a2828fa7b3ce4a95fc7401a953c2664"), looks := true }, kinds := [], alts := [], laidByText := true, laidKinds := [.data, .data, .data, .data, .sentinel, .sentinel, .data, .pinned], laidTests := true, laidLooks := .later }
def CompilesUptoCardSaid : Prop := Claim7.holds Tryz.pinned (.plain (OpenSpec.upto compilesSpec)) compilesUptoCard

/-- THE SECOND FORM's CARD OF 'darnlaw.Reads'. -/
def readsUptoCard : Claim7 := { stood := { row := readsUptoRow, standIns := [], harness := (true, "c9c3fe74499e58beac445d411117eab16a2828fa7b3ce4a95fc7401a953c2664"), looks := true }, kinds := [], alts := [], laidByText := true, laidKinds := [.data, .data, .data, .data, .sentinel, .sentinel, .data, .pinned], laidTests := true, laidLooks := .later }
def ReadsUptoCardSaid : Prop := Claim7.holds Tryz.pinned (.plain (OpenSpec.upto readsSpec)) readsUptoCard

/-- THE SECOND FORM's CARD OF 'darnlaw.Mends'. -/
def mendsUptoCard : Claim7 := { stood := { row := mendsUptoRow, standIns := [], harness := (true, "c9c3fe74499e58beac445d411117eab16a2828fa7b3ce4a95fc7401a953c2664"), looks := true }, kinds := [], alts := [], laidByText := true, laidKinds := [.data, .data, .data, .data, .sentinel, .sentinel, .data, .pinned], laidTests := true, laidLooks := .later }
def MendsUptoCardSaid : Prop := Claim7.holds Tryz.pinned (.plain (OpenSpec.upto mendsSpec)) mendsUptoCard

/-- THE SECOND FORM's CARD OF 'darnlaw.Steady'. -/
def steadyUptoCard : Claim7 := { stood := { row := steadyUptoRow, standIns := [], harness := (true, "c9c3fe74499e58beac445d411117eab16a2828fa7b3ce4a95fc7401a953c2664"), looks := true }, kinds := [], alts := [], laidByText := true, laidKinds := [.data, .data, .data, .data, .sentinel, .sentinel, .data, .pinned], laidTests := true, laidLooks := .later }
def SteadyUptoCardSaid : Prop := Claim7.holds Tryz.pinned (.plain (OpenSpec.upto steadySpec)) steadyUptoCard

/-- THE SECOND FORM's CARD OF 'darnlaw.All'. -/
def allUptoCard : Claim7 := { stood := { row := allUptoRow, standIns := [], harness := (true, "c9c3fe74499e58beac445d411117eab16a2828fa7b3ce4a95fc7401a953c2664"), looks := true }, kinds := [], alts := [], laidByText := true, laidKinds := [.data, .data, .data, .data, .sentinel, .sentinel, .data, .pinned], laidTests := true, laidLooks := .later }
def AllUptoCardSaid : Prop := Claim7.holds Tryz.pinned (.plain (OpenSpec.upto allSpec)) allUptoCard

/-- THE SECOND FORM's CARD OF 'darnkeep.Known'. -/
def knownUptoCard : Claim7 := { stood := { row := knownUptoRow, standIns := [], harness := (true, "c9c3fe74499e58beac445d411117eab16a2828fa7b3ce4a95fc7401a953c2664"), looks := true }, kinds := [], alts := [], laidByText := true, laidKinds := [.data, .data, .data, .data, .sentinel, .sentinel, .data, .pinned], laidTests := true, laidLooks := .later }
def KnownUptoCardSaid : Prop := Claim7.holds Tryz.pinned (.plain (OpenSpec.upto knownSpec)) knownUptoCard

/-- THE SECOND FORM's CARD OF 'darnkeep.Kept'. -/
def keptUptoCard : Claim7 := { stood := { row := keptUptoRow, standIns := [], harness := (true, "c9c3fe74499e58beac445d411117eab16a2828fa7b3ce4a95fc7401a953c2664"), looks := true }, kinds := [], alts := [], laidByText := true, laidKinds := [.data, .data, .data, .data, .sentinel, .sentinel, .data, .pinned], laidTests := true, laidLooks := .later }
def KeptUptoCardSaid : Prop := Claim7.holds Tryz.pinned (.plain (OpenSpec.upto keptSpec)) keptUptoCard

/-- THE SECOND FORM's CARD OF 'darnkeep.Cheap'. -/
def cheapUptoCard : Claim7 := { stood := { row := cheapUptoRow, standIns := [], harness := (true, "c9c3fe74499e58beac445d411117eab16a2828fa7b3ce4a95fc7401a953c2664"), looks := true }, kinds := [], alts := [], laidByText := true, laidKinds := [.data, .data, .data, .data, .sentinel, .sentinel, .data, .pinned], laidTests := true, laidLooks := .later }
def CheapUptoCardSaid : Prop := Claim7.holds Tryz.pinned (.plain (OpenSpec.upto cheapSpec)) cheapUptoCard

/-- THE SECOND FORM's CARD OF 'darnkeep.Hurt'. -/
def hurtUptoCard : Claim7 := { stood := { row := hurtUptoRow, standIns := [], harness := (true, "c9c3fe74499e58beac445d411117eab16a2828fa7b3ce4a95fc7401a953c2664"), looks := true }, kinds := [], alts := [], laidByText := true, laidKinds := [.data, .data, .data, .data, .sentinel, .sentinel, .data, .pinned], laidTests := true, laidLooks := .later }
def HurtUptoCardSaid : Prop := Claim7.holds Tryz.pinned (.plain (OpenSpec.upto hurtSpec)) hurtUptoCard
end Rows
end Go.Proofs.YtjjggdcnpndgjaaGreatDoor
