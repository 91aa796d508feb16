/-
  DERIVED. GIVEN WITH THE SEED: THE CARDS: each row of YtkkipnihdiabpaaGreatDoorRows.lean that lists a variable, with what it lists TIED to the program's text (the seventh form; the later family's looks); each row that meets fmt, with fmt's text TOLD by the authors' own Lean function (tested against real Go, not proved from fmt's source: count such statements apart). THE CARD IS WHAT COUNTS. Prove the row's statement (the work); the ties are given (YtkkipnihdiabpaaGreatDoorTie.lean); close each card by the builder's one call (the guide's Derived/Test/ToyasCard.lean, 'card_holds'). Laid BY PROGRAM, IN A SANDBOX (cutbox-door.mjs). By AI agents, Wed Nov 11 2026. No macro, syntax, notation, axiom, sorry.
-/
import Derived.Test.YtkkipnihdiabpaaGreatDoorRows
import GoSem.ClaimSeven
namespace Go.Proofs.YtkkipnihdiabpaaGreatDoor
namespace Rows

/-- THE TIED CARD OF 'linearkeep.Grows'. -/
def growsCard : Claim7 := { stood := { row := growsRow, standIns := [], harness := (true, "1ad2e77a8ba4a3bdc0cfb80df741f78cf0184c6ef9ebe516010c562b0359b9b4"), looks := true }, kinds := [], alts := [], laidByText := true, laidKinds := [.data, .data, .data, .data, .sentinel, .sentinel, .data, .pinned], laidTests := true, laidLooks := .later }
def GrowsCardSaid : Prop := Claim7.holds Tryz.pinned (.plain (OpenSpec.ofChange growsSpec)) growsCard

/-- THE SECOND FORM's CARD OF 'linearkeep.Grows'. -/
def growsUptoCard : Claim7 := { stood := { row := growsUptoRow, standIns := [], harness := (true, "1ad2e77a8ba4a3bdc0cfb80df741f78cf0184c6ef9ebe516010c562b0359b9b4"), looks := true }, kinds := [], alts := [], laidByText := true, laidKinds := [.data, .data, .data, .data, .sentinel, .sentinel, .data, .pinned], laidTests := true, laidLooks := .later }
def GrowsUptoCardSaid : Prop := Claim7.holds Tryz.pinned (.plain (OpenSpec.upto growsSpec)) growsUptoCard
end Rows
end Go.Proofs.YtkkipnihdiabpaaGreatDoor
