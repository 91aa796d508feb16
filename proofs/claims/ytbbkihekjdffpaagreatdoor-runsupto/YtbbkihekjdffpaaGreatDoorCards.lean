/-
  DERIVED. GIVEN WITH THE SEED: THE CARDS: each row of YtbbkihekjdffpaaGreatDoorRows.lean that lists a variable, with what it lists TIED to the program's text (the seventh form; the later family's looks); each row that meets fmt, with fmt's text TOLD by the authors' own Lean function (tested against real Go, not proved from fmt's source: count such statements apart). THE CARD IS WHAT COUNTS. Prove the row's statement (the work); the ties are given (YtbbkihekjdffpaaGreatDoorTie.lean); close each card by the builder's one call (the guide's Derived/Test/ToyasCard.lean, 'card_holds'). Laid BY PROGRAM, IN A SANDBOX (cutbox-door.mjs). By AI agents, Wed Nov 11 2026. No macro, syntax, notation, axiom, sorry.
-/
import Derived.Test.YtbbkihekjdffpaaGreatDoorRows
import GoSem.ClaimSeven
namespace Go.Proofs.YtbbkihekjdffpaaGreatDoor
namespace Rows

/-- THE TIED CARD OF 'linearlaw.Lone'. -/
def loneCard : Claim7 := { stood := { row := loneRow, standIns := [], harness := (true, "b16012d63ef520a6299110f3b8779c1ec96be7794bf5b780e97dee25fd9219cb"), looks := true }, kinds := [], alts := [], laidByText := true, laidKinds := [.data, .data, .data, .data, .data, .sentinel, .sentinel, .data, .pinned], laidTests := true, laidLooks := .later }
def LoneCardSaid : Prop := Claim7.holds Tryz.pinned (.plain (OpenSpec.ofChange loneSpec)) loneCard

/-- THE TIED CARD OF 'linearlaw.Runs'. -/
def runsCard : Claim7 := { stood := { row := runsRow, standIns := [], harness := (true, "b16012d63ef520a6299110f3b8779c1ec96be7794bf5b780e97dee25fd9219cb"), looks := true }, kinds := [], alts := [], laidByText := true, laidKinds := [.data, .data, .data, .data, .data, .sentinel, .sentinel, .data, .pinned], laidTests := true, laidLooks := .later }
def RunsCardSaid : Prop := Claim7.holds Tryz.pinned (.plain (OpenSpec.ofChange runsSpec)) runsCard

/-- THE SECOND FORM's CARD OF 'linearlaw.Lone'. -/
def loneUptoCard : Claim7 := { stood := { row := loneUptoRow, standIns := [], harness := (true, "b16012d63ef520a6299110f3b8779c1ec96be7794bf5b780e97dee25fd9219cb"), looks := true }, kinds := [], alts := [], laidByText := true, laidKinds := [.data, .data, .data, .data, .data, .sentinel, .sentinel, .data, .pinned], laidTests := true, laidLooks := .later }
def LoneUptoCardSaid : Prop := Claim7.holds Tryz.pinned (.plain (OpenSpec.upto loneSpec)) loneUptoCard

/-- THE SECOND FORM's CARD OF 'linearlaw.Runs'. -/
def runsUptoCard : Claim7 := { stood := { row := runsUptoRow, standIns := [], harness := (true, "b16012d63ef520a6299110f3b8779c1ec96be7794bf5b780e97dee25fd9219cb"), looks := true }, kinds := [], alts := [], laidByText := true, laidKinds := [.data, .data, .data, .data, .data, .sentinel, .sentinel, .data, .pinned], laidTests := true, laidLooks := .later }
def RunsUptoCardSaid : Prop := Claim7.holds Tryz.pinned (.plain (OpenSpec.upto runsSpec)) runsUptoCard
end Rows
end Go.Proofs.YtbbkihekjdffpaaGreatDoor
