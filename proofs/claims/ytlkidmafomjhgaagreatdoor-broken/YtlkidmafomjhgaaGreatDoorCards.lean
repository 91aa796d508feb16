/-
  DERIVED. GIVEN WITH THE SEED: THE CARDS: each row of YtlkidmafomjhgaaGreatDoorRows.lean that lists a variable, with what it lists TIED to the program's text (the seventh form; the later family's looks); each row that meets fmt, with fmt's text TOLD by the authors' own Lean function (tested against real Go, not proved from fmt's source: count such statements apart). THE CARD IS WHAT COUNTS. Prove the row's statement (the work); the ties are given (YtlkidmafomjhgaaGreatDoorTie.lean); close each card by the builder's one call (the guide's Derived/Test/ToyasCard.lean, 'card_holds'). Laid BY PROGRAM, IN A SANDBOX (cutbox-door.mjs). By AI agents, Wed Nov 11 2026. No macro, syntax, notation, axiom, sorry.
-/
import Derived.Test.YtlkidmafomjhgaaGreatDoorRows
import GoSem.ClaimSeven
namespace Go.Proofs.YtlkidmafomjhgaaGreatDoor
namespace Rows

/-- THE TIED CARD OF 'linearkeep.Renamed'. -/
def renamedCard : Claim7 := { stood := { row := renamedRow, standIns := [], harness := (true, "f120f15bd22f2d8a7827afe64c5536dbbed31d19ab5eb9f6fb2455e723ce54d0"), looks := true }, kinds := [], alts := [], laidByText := true, laidKinds := [.data, .data, .data, .data, .sentinel, .sentinel, .data, .pinned], laidTests := true, laidLooks := .later }
def RenamedCardSaid : Prop := Claim7.holds Tryz.pinned (.plain (OpenSpec.ofChange renamedSpec)) renamedCard

/-- THE TIED CARD OF 'linearkeep.Local'. -/
def localCard : Claim7 := { stood := { row := localRow, standIns := [], harness := (true, "f120f15bd22f2d8a7827afe64c5536dbbed31d19ab5eb9f6fb2455e723ce54d0"), looks := true }, kinds := [], alts := [], laidByText := true, laidKinds := [.data, .data, .data, .data, .sentinel, .sentinel, .data, .pinned], laidTests := true, laidLooks := .later }
def LocalCardSaid : Prop := Claim7.holds Tryz.pinned (.plain (OpenSpec.ofChange localSpec)) localCard

/-- THE TIED CARD OF 'linearkeep.Lived'. -/
def livedCard : Claim7 := { stood := { row := livedRow, standIns := [], harness := (true, "f120f15bd22f2d8a7827afe64c5536dbbed31d19ab5eb9f6fb2455e723ce54d0"), looks := true }, kinds := [], alts := [], laidByText := true, laidKinds := [.data, .data, .data, .data, .sentinel, .sentinel, .data, .pinned], laidTests := true, laidLooks := .later }
def LivedCardSaid : Prop := Claim7.holds Tryz.pinned (.plain (OpenSpec.ofChange livedSpec)) livedCard

/-- THE TIED CARD OF 'linearkeep.Broken'. -/
def brokenCard : Claim7 := { stood := { row := brokenRow, standIns := [], harness := (true, "f120f15bd22f2d8a7827afe64c5536dbbed31d19ab5eb9f6fb2455e723ce54d0"), looks := true }, kinds := [], alts := [], laidByText := true, laidKinds := [.data, .data, .data, .data, .sentinel, .sentinel, .data, .pinned], laidTests := true, laidLooks := .later }
def BrokenCardSaid : Prop := Claim7.holds Tryz.pinned (.plain (OpenSpec.ofChange brokenSpec)) brokenCard

/-- THE SECOND FORM's CARD OF 'linearkeep.Renamed'. -/
def renamedUptoCard : Claim7 := { stood := { row := renamedUptoRow, standIns := [], harness := (true, "f120f15bd22f2d8a7827afe64c5536dbbed31d19ab5eb9f6fb2455e723ce54d0"), looks := true }, kinds := [], alts := [], laidByText := true, laidKinds := [.data, .data, .data, .data, .sentinel, .sentinel, .data, .pinned], laidTests := true, laidLooks := .later }
def RenamedUptoCardSaid : Prop := Claim7.holds Tryz.pinned (.plain (OpenSpec.upto renamedSpec)) renamedUptoCard

/-- THE SECOND FORM's CARD OF 'linearkeep.Local'. -/
def localUptoCard : Claim7 := { stood := { row := localUptoRow, standIns := [], harness := (true, "f120f15bd22f2d8a7827afe64c5536dbbed31d19ab5eb9f6fb2455e723ce54d0"), looks := true }, kinds := [], alts := [], laidByText := true, laidKinds := [.data, .data, .data, .data, .sentinel, .sentinel, .data, .pinned], laidTests := true, laidLooks := .later }
def LocalUptoCardSaid : Prop := Claim7.holds Tryz.pinned (.plain (OpenSpec.upto localSpec)) localUptoCard

/-- THE SECOND FORM's CARD OF 'linearkeep.Lived'. -/
def livedUptoCard : Claim7 := { stood := { row := livedUptoRow, standIns := [], harness := (true, "f120f15bd22f2d8a7827afe64c5536dbbed31d19ab5eb9f6fb2455e723ce54d0"), looks := true }, kinds := [], alts := [], laidByText := true, laidKinds := [.data, .data, .data, .data, .sentinel, .sentinel, .data, .pinned], laidTests := true, laidLooks := .later }
def LivedUptoCardSaid : Prop := Claim7.holds Tryz.pinned (.plain (OpenSpec.upto livedSpec)) livedUptoCard

/-- THE SECOND FORM's CARD OF 'linearkeep.Broken'. -/
def brokenUptoCard : Claim7 := { stood := { row := brokenUptoRow, standIns := [], harness := (true, "f120f15bd22f2d8a7827afe64c5536dbbed31d19ab5eb9f6fb2455e723ce54d0"), looks := true }, kinds := [], alts := [], laidByText := true, laidKinds := [.data, .data, .data, .data, .sentinel, .sentinel, .data, .pinned], laidTests := true, laidLooks := .later }
def BrokenUptoCardSaid : Prop := Claim7.holds Tryz.pinned (.plain (OpenSpec.upto brokenSpec)) brokenUptoCard
end Rows
end Go.Proofs.YtlkidmafomjhgaaGreatDoor
