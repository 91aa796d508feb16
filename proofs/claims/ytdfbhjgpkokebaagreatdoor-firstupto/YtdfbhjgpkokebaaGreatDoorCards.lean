/-
  DERIVED. GIVEN WITH THE SEED: THE CARDS: each row of YtdfbhjgpkokebaaGreatDoorRows.lean that lists a variable, with what it lists TIED to the program's text (the seventh form; the later family's looks); each row that meets fmt, with fmt's text TOLD by the authors' own Lean function (tested against real Go, not proved from fmt's source: count such statements apart). THE CARD IS WHAT COUNTS. Prove the row's statement (the work); the ties are given (YtdfbhjgpkokebaaGreatDoorTie.lean); close each card by the builder's one call (the guide's Derived/Test/ToyasCard.lean, 'card_holds'). Laid BY PROGRAM, IN A SANDBOX (cutbox-door.mjs). By AI agents, Wed Nov 11 2026. No macro, syntax, notation, axiom, sorry.
-/
import Derived.Test.YtdfbhjgpkokebaaGreatDoorRows
import GoSem.ClaimSeven
namespace Go.Proofs.YtdfbhjgpkokebaaGreatDoor
namespace Rows

/-- THE TIED CARD OF 'linearlaw.Reads'. -/
def readsCard : Claim7 := { stood := { row := readsRow, standIns := [], harness := (true, "67711328349f0a8833e861f8e3fe5066e0b17fbf46d2c78580249c72373c8b62"), looks := true }, kinds := [], alts := [], laidByText := true, laidKinds := [.data, .data, .data, .data, .data, .sentinel, .sentinel, .data, .pinned], laidTests := true, laidLooks := .later }
def ReadsCardSaid : Prop := Claim7.holds Tryz.pinned (.plain (OpenSpec.ofChange readsSpec)) readsCard

/-- THE TIED CARD OF 'linearkeep.Written'. -/
def writtenCard : Claim7 := { stood := { row := writtenRow, standIns := [], harness := (true, "67711328349f0a8833e861f8e3fe5066e0b17fbf46d2c78580249c72373c8b62"), looks := true }, kinds := [], alts := [], laidByText := true, laidKinds := [.data, .data, .data, .data, .sentinel, .sentinel, .data, .pinned], laidTests := true, laidLooks := .later }
def WrittenCardSaid : Prop := Claim7.holds Tryz.pinned (.plain (OpenSpec.ofChange writtenSpec)) writtenCard

/-- THE TIED CARD OF 'linearkeep.First'. -/
def firstCard : Claim7 := { stood := { row := firstRow, standIns := [], harness := (true, "67711328349f0a8833e861f8e3fe5066e0b17fbf46d2c78580249c72373c8b62"), looks := true }, kinds := [], alts := [], laidByText := true, laidKinds := [.data, .data, .data, .data, .sentinel, .sentinel, .data, .pinned], laidTests := true, laidLooks := .later }
def FirstCardSaid : Prop := Claim7.holds Tryz.pinned (.plain (OpenSpec.ofChange firstSpec)) firstCard

/-- THE SECOND FORM's CARD OF 'linearlaw.Reads'. -/
def readsUptoCard : Claim7 := { stood := { row := readsUptoRow, standIns := [], harness := (true, "67711328349f0a8833e861f8e3fe5066e0b17fbf46d2c78580249c72373c8b62"), looks := true }, kinds := [], alts := [], laidByText := true, laidKinds := [.data, .data, .data, .data, .data, .sentinel, .sentinel, .data, .pinned], laidTests := true, laidLooks := .later }
def ReadsUptoCardSaid : Prop := Claim7.holds Tryz.pinned (.plain (OpenSpec.upto readsSpec)) readsUptoCard

/-- THE SECOND FORM's CARD OF 'linearkeep.Written'. -/
def writtenUptoCard : Claim7 := { stood := { row := writtenUptoRow, standIns := [], harness := (true, "67711328349f0a8833e861f8e3fe5066e0b17fbf46d2c78580249c72373c8b62"), looks := true }, kinds := [], alts := [], laidByText := true, laidKinds := [.data, .data, .data, .data, .sentinel, .sentinel, .data, .pinned], laidTests := true, laidLooks := .later }
def WrittenUptoCardSaid : Prop := Claim7.holds Tryz.pinned (.plain (OpenSpec.upto writtenSpec)) writtenUptoCard

/-- THE SECOND FORM's CARD OF 'linearkeep.First'. -/
def firstUptoCard : Claim7 := { stood := { row := firstUptoRow, standIns := [], harness := (true, "67711328349f0a8833e861f8e3fe5066e0b17fbf46d2c78580249c72373c8b62"), looks := true }, kinds := [], alts := [], laidByText := true, laidKinds := [.data, .data, .data, .data, .sentinel, .sentinel, .data, .pinned], laidTests := true, laidLooks := .later }
def FirstUptoCardSaid : Prop := Claim7.holds Tryz.pinned (.plain (OpenSpec.upto firstSpec)) firstUptoCard
end Rows
end Go.Proofs.YtdfbhjgpkokebaaGreatDoor
