/-
  DERIVED. GIVEN WITH THE SEED: THE CARDS: each row of YtapabahhfanmmaaDoorRows.lean that lists a variable, with what it lists TIED to the program's text (the seventh form; the later family's looks); each row that meets fmt, with fmt's text TOLD by the authors' own Lean function (tested against real Go, not proved from fmt's source: count such statements apart). THE CARD IS WHAT COUNTS. Prove the row's statement (the work); the ties are given (YtapabahhfanmmaaDoorTie.lean); close each card by the builder's one call (the guide's Derived/Test/ToyasCard.lean, 'card_holds'). Laid BY PROGRAM, IN A SANDBOX (cutbox-door.mjs). By AI agents, Wed Nov 11 2026. No macro, syntax, notation, axiom, sorry.
-/
import Derived.Test.YtapabahhfanmmaaDoorRows
import GoSem.ClaimSeven
namespace Go.Proofs.YtapabahhfanmmaaDoor
namespace Rows

/-- THE TIED CARD OF 'skirmishkeep.Kept'. -/
def keptCard : Claim7 := { stood := { row := keptRow, standIns := [], harness := (true, "d85fd74d8b077c5b1517a4c853b6094dc8bf4a857a87fcbb564f8a081107ea2b"), looks := false }, kinds := [], alts := [], laidByText := true, laidKinds := [.data], laidTests := true, laidLooks := .later }
def KeptCardSaid : Prop := Claim7.holds Tryd.pinned (.plain (OpenSpec.ofChange keptSpec)) keptCard

/-- THE TIED CARD OF 'skirmishkeep.Slow'. -/
def slowCard : Claim7 := { stood := { row := slowRow, standIns := [], harness := (true, "d85fd74d8b077c5b1517a4c853b6094dc8bf4a857a87fcbb564f8a081107ea2b"), looks := false }, kinds := [], alts := [], laidByText := true, laidKinds := [.data], laidTests := true, laidLooks := .later }
def SlowCardSaid : Prop := Claim7.holds Tryd.pinned (.plain (OpenSpec.ofChange slowSpec)) slowCard

/-- THE TIED CARD OF 'skirmishkeep.Way'. -/
def wayCard : Claim7 := { stood := { row := wayRow, standIns := [], harness := (true, "d85fd74d8b077c5b1517a4c853b6094dc8bf4a857a87fcbb564f8a081107ea2b"), looks := false }, kinds := [], alts := [], laidByText := true, laidKinds := [.data], laidTests := true, laidLooks := .later }
def WayCardSaid : Prop := Claim7.holds Tryd.pinned (.plain (OpenSpec.ofChange waySpec)) wayCard

/-- THE TIED CARD OF 'skirmishkeep.Alike'. -/
def alikeCard : Claim7 := { stood := { row := alikeRow, standIns := [], harness := (true, "d85fd74d8b077c5b1517a4c853b6094dc8bf4a857a87fcbb564f8a081107ea2b"), looks := false }, kinds := [], alts := [], laidByText := true, laidKinds := [.data], laidTests := true, laidLooks := .later }
def AlikeCardSaid : Prop := Claim7.holds Tryd.pinned (.plain (OpenSpec.ofChange alikeSpec)) alikeCard

/-- THE SECOND FORM's CARD OF 'skirmishkeep.Kept'. -/
def keptUptoCard : Claim7 := { stood := { row := keptUptoRow, standIns := [], harness := (true, "d85fd74d8b077c5b1517a4c853b6094dc8bf4a857a87fcbb564f8a081107ea2b"), looks := false }, kinds := [], alts := [], laidByText := true, laidKinds := [.data], laidTests := true, laidLooks := .later }
def KeptUptoCardSaid : Prop := Claim7.holds Tryd.pinned (.plain (OpenSpec.upto keptSpec)) keptUptoCard

/-- THE SECOND FORM's CARD OF 'skirmishkeep.Slow'. -/
def slowUptoCard : Claim7 := { stood := { row := slowUptoRow, standIns := [], harness := (true, "d85fd74d8b077c5b1517a4c853b6094dc8bf4a857a87fcbb564f8a081107ea2b"), looks := false }, kinds := [], alts := [], laidByText := true, laidKinds := [.data], laidTests := true, laidLooks := .later }
def SlowUptoCardSaid : Prop := Claim7.holds Tryd.pinned (.plain (OpenSpec.upto slowSpec)) slowUptoCard

/-- THE SECOND FORM's CARD OF 'skirmishkeep.Way'. -/
def wayUptoCard : Claim7 := { stood := { row := wayUptoRow, standIns := [], harness := (true, "d85fd74d8b077c5b1517a4c853b6094dc8bf4a857a87fcbb564f8a081107ea2b"), looks := false }, kinds := [], alts := [], laidByText := true, laidKinds := [.data], laidTests := true, laidLooks := .later }
def WayUptoCardSaid : Prop := Claim7.holds Tryd.pinned (.plain (OpenSpec.upto waySpec)) wayUptoCard

/-- THE SECOND FORM's CARD OF 'skirmishkeep.Alike'. -/
def alikeUptoCard : Claim7 := { stood := { row := alikeUptoRow, standIns := [], harness := (true, "d85fd74d8b077c5b1517a4c853b6094dc8bf4a857a87fcbb564f8a081107ea2b"), looks := false }, kinds := [], alts := [], laidByText := true, laidKinds := [.data], laidTests := true, laidLooks := .later }
def AlikeUptoCardSaid : Prop := Claim7.holds Tryd.pinned (.plain (OpenSpec.upto alikeSpec)) alikeUptoCard
end Rows
end Go.Proofs.YtapabahhfanmmaaDoor
