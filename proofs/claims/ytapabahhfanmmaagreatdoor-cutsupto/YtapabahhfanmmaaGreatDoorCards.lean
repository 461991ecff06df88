/-
  DERIVED. GIVEN WITH THE SEED: THE CARDS: each row of YtapabahhfanmmaaGreatDoorRows.lean that lists a variable, with what it lists TIED to the program's text (the seventh form; the later family's looks); each row that meets fmt, with fmt's text TOLD by the authors' own Lean function (tested against real Go, not proved from fmt's source: count such statements apart). THE CARD IS WHAT COUNTS. Prove the row's statement (the work); the ties are given (YtapabahhfanmmaaGreatDoorTie.lean); close each card by the builder's one call (the guide's Derived/Test/ToyasCard.lean, 'card_holds'). Laid BY PROGRAM, IN A SANDBOX (cutbox-door.mjs). By AI agents, Wed Nov 11 2026. No macro, syntax, notation, axiom, sorry.
-/
import Derived.Test.YtapabahhfanmmaaGreatDoorRows
import GoSem.ClaimSeven
namespace Go.Proofs.YtapabahhfanmmaaGreatDoor
namespace Rows

/-- THE TIED CARD OF 'skirmishlaw.Plays'. -/
def playsCard : Claim7 := { stood := { row := playsRow, standIns := [], harness := (true, "cb54d15aa5e689593dcf786f5030992d6572ab7c234a0e69cb46a26daed9d031"), looks := false }, kinds := [], alts := [], laidByText := true, laidKinds := [.data], laidTests := true, laidLooks := .later }
def PlaysCardSaid : Prop := Claim7.holds Tryz.pinned (.plain (OpenSpec.ofChange playsSpec)) playsCard

/-- THE TIED CARD OF 'skirmishlaw.Told'. -/
def toldCard : Claim7 := { stood := { row := toldRow, standIns := [], harness := (true, "cb54d15aa5e689593dcf786f5030992d6572ab7c234a0e69cb46a26daed9d031"), looks := false }, kinds := [], alts := [], laidByText := true, laidKinds := [.data], laidTests := true, laidLooks := .later }
def ToldCardSaid : Prop := Claim7.holds Tryz.pinned (.plain (OpenSpec.ofChange toldSpec)) toldCard

/-- THE TIED CARD OF 'skirmishlaw.Records'. -/
def recordsCard : Claim7 := { stood := { row := recordsRow, standIns := [], harness := (true, "cb54d15aa5e689593dcf786f5030992d6572ab7c234a0e69cb46a26daed9d031"), looks := false }, kinds := [], alts := [], laidByText := true, laidKinds := [.data, .data, .data, .data], laidTests := true, laidLooks := .later }
def RecordsCardSaid : Prop := Claim7.holds Tryz.pinned (.plain (OpenSpec.ofChange recordsSpec)) recordsCard

/-- THE TIED CARD OF 'skirmishlaw.Cuts'. -/
def cutsCard : Claim7 := { stood := { row := cutsRow, standIns := [], harness := (true, "cb54d15aa5e689593dcf786f5030992d6572ab7c234a0e69cb46a26daed9d031"), looks := false }, kinds := [], alts := [], laidByText := true, laidKinds := [.data, .data, .data, .data], laidTests := true, laidLooks := .later }
def CutsCardSaid : Prop := Claim7.holds Tryz.pinned (.plain (OpenSpec.ofChange cutsSpec)) cutsCard

/-- THE TIED CARD OF 'skirmishkeep.Torn'. -/
def tornCard : Claim7 := { stood := { row := tornRow, standIns := [], harness := (true, "cb54d15aa5e689593dcf786f5030992d6572ab7c234a0e69cb46a26daed9d031"), looks := false }, kinds := [], alts := [], laidByText := true, laidKinds := [.data, .data, .data, .data], laidTests := true, laidLooks := .later }
def TornCardSaid : Prop := Claim7.holds Tryz.pinned (.plain (OpenSpec.ofChange tornSpec)) tornCard

/-- THE SECOND FORM's CARD OF 'skirmishlaw.Plays'. -/
def playsUptoCard : Claim7 := { stood := { row := playsUptoRow, standIns := [], harness := (true, "cb54d15aa5e689593dcf786f5030992d6572ab7c234a0e69cb46a26daed9d031"), looks := false }, kinds := [], alts := [], laidByText := true, laidKinds := [.data], laidTests := true, laidLooks := .later }
def PlaysUptoCardSaid : Prop := Claim7.holds Tryz.pinned (.plain (OpenSpec.upto playsSpec)) playsUptoCard

/-- THE SECOND FORM's CARD OF 'skirmishlaw.Told'. -/
def toldUptoCard : Claim7 := { stood := { row := toldUptoRow, standIns := [], harness := (true, "cb54d15aa5e689593dcf786f5030992d6572ab7c234a0e69cb46a26daed9d031"), looks := false }, kinds := [], alts := [], laidByText := true, laidKinds := [.data], laidTests := true, laidLooks := .later }
def ToldUptoCardSaid : Prop := Claim7.holds Tryz.pinned (.plain (OpenSpec.upto toldSpec)) toldUptoCard

/-- THE SECOND FORM's CARD OF 'skirmishlaw.Records'. -/
def recordsUptoCard : Claim7 := { stood := { row := recordsUptoRow, standIns := [], harness := (true, "cb54d15aa5e689593dcf786f5030992d6572ab7c234a0e69cb46a26daed9d031"), looks := false }, kinds := [], alts := [], laidByText := true, laidKinds := [.data, .data, .data, .data], laidTests := true, laidLooks := .later }
def RecordsUptoCardSaid : Prop := Claim7.holds Tryz.pinned (.plain (OpenSpec.upto recordsSpec)) recordsUptoCard

/-- THE SECOND FORM's CARD OF 'skirmishlaw.Cuts'. -/
def cutsUptoCard : Claim7 := { stood := { row := cutsUptoRow, standIns := [], harness := (true, "cb54d15aa5e689593dcf786f5030992d6572ab7c234a0e69cb46a26daed9d031"), looks := false }, kinds := [], alts := [], laidByText := true, laidKinds := [.data, .data, .data, .data], laidTests := true, laidLooks := .later }
def CutsUptoCardSaid : Prop := Claim7.holds Tryz.pinned (.plain (OpenSpec.upto cutsSpec)) cutsUptoCard

/-- THE SECOND FORM's CARD OF 'skirmishkeep.Torn'. -/
def tornUptoCard : Claim7 := { stood := { row := tornUptoRow, standIns := [], harness := (true, "cb54d15aa5e689593dcf786f5030992d6572ab7c234a0e69cb46a26daed9d031"), looks := false }, kinds := [], alts := [], laidByText := true, laidKinds := [.data, .data, .data, .data], laidTests := true, laidLooks := .later }
def TornUptoCardSaid : Prop := Claim7.holds Tryz.pinned (.plain (OpenSpec.upto tornSpec)) tornUptoCard
end Rows
end Go.Proofs.YtapabahhfanmmaaGreatDoor
