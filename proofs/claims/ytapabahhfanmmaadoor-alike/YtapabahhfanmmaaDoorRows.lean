/-
  NARROWER THAN 'FOR EVERY INPUT', by the rows' own cells (each row's printed sentence says how): Kept: laid · Slow: laid · Way: laid · Alike: laid.
  DERIVED. THE GIVEN ROWS OF THIS SEAT. 4 by the template 'for every input the law returns true; each argument reads behind the call as it read before'; 0 by the template 'total and deterministic' (their statements: YtapabahhfanmmaaDoorTotals.lean).
  GIVEN WITH THE SEED: the statements are not yours to turn. If you find one false, say at which input.
  Laid BY PROGRAM, IN A SANDBOX (cutbox-rows.mjs): the forced cells as the released guide's own fill.sh prints them over the translation 13c19a69f420de68… (all of the seat's roots in one cut). By AI agents, Wed Nov 11 2026. No macro, syntax, notation, axiom, sorry.
-/
import Derived.Test.YtapabahhfanmmaaDoorChecked
import GoSem.Claim
import GoSem.ClaimJoined
import GoSem.ClaimMapViews
import Derived.JoinedTies
import Derived.KernelRfl
namespace Go.Proofs.YtapabahhfanmmaaDoor
/- THE CELL 'sum', in the pinned program and in every row, IS THE sha256 OF THE DUMP (.gsa) THAT YtapabahhfanmmaaDoorProg.lean LOADS. Nothing in Lean hashes anything: it is a label: what it is worth is what the hold of that sum in a sandbox is worth. -/
noncomputable def Tryd.pinned : Pinned := { name := "ytapabahhfanmmaadoor", sum := "13c19a69f420de683594f75595d5a88494064066ff118943ad7778cd1c080906", checked := Tryd.checked }
namespace Rows
def none {H : Type} : Left H := { results := [], args := [] }

/- WHAT THE LISTED PACKAGE-LEVEL VARIABLES READ AS WHEN THE CALL BEGINS. Each datum BY PROGRAM (the guide's laid-datum.mjs) off the statement by which the dump's own 'gosem.cut.vars' lays the variable. In a bare row this is a premise. The card (YtapabahhfanmmaaDoorCards.lean) ties it to the program's text. -/
def laid_skirmish_land_sides {H : Type} : DataW H := .agg [.agg [.lit (.int .i64 0), .lit (.int .i64 (-1))], .agg [.lit (.int .i64 1), .lit (.int .i64 0)], .agg [.lit (.int .i64 0), .lit (.int .i64 1)], .agg [.lit (.int .i64 (-1)), .lit (.int .i64 0)]]

/-- 'skirmishkeep.Kept': WHATEVER THE INPUT: true; the input reads as it did. -/
def keptSpec : ChangeSpec := { name := "kept", fn := fun _ => fun
  | [d1, d2] => { results := [.lit (.bool true)], args := [d1, d2] }
  | _ => none }
def keptRow : OpenClaim := { program := "ytapabahhfanmmaadoor", sum := "13c19a69f420de683594f75595d5a88494064066ff118943ad7778cd1c080906", func := "skirmish/skirmishkeep.Kept", spec := "kept", unfollowed := true, recurses := true, named := ["skirmish/land.sides"], plainKeys := false, apart := false, laid := [("skirmish/land.sides", laid_skirmish_land_sides)] }
def KeptSaid : Prop := keptRow.holds Tryd.pinned (OpenSpec.ofChange keptSpec)

/-- ITS FALSE NEIGHBOUR: 'it returns false'. Refute it at one input. -/
def keptWrong : ChangeSpec := { name := "kept", fn := fun _ => fun
  | [d1, d2] => { results := [.lit (.bool false)], args := [d1, d2] }
  | _ => none }
def KeptWrongFalsely : Prop := keptRow.holds Tryd.pinned (OpenSpec.ofChange keptWrong)

/-- 'skirmishkeep.Slow': WHATEVER THE INPUT: true; the input reads as it did. -/
def slowSpec : ChangeSpec := { name := "slow", fn := fun _ => fun
  | [d1, d2] => { results := [.lit (.bool true)], args := [d1, d2] }
  | _ => none }
def slowRow : OpenClaim := { program := "ytapabahhfanmmaadoor", sum := "13c19a69f420de683594f75595d5a88494064066ff118943ad7778cd1c080906", func := "skirmish/skirmishkeep.Slow", spec := "slow", unfollowed := true, recurses := true, named := ["skirmish/land.sides"], plainKeys := false, apart := false, laid := [("skirmish/land.sides", laid_skirmish_land_sides)] }
def SlowSaid : Prop := slowRow.holds Tryd.pinned (OpenSpec.ofChange slowSpec)

/-- ITS FALSE NEIGHBOUR: 'it returns false'. Refute it at one input. -/
def slowWrong : ChangeSpec := { name := "slow", fn := fun _ => fun
  | [d1, d2] => { results := [.lit (.bool false)], args := [d1, d2] }
  | _ => none }
def SlowWrongFalsely : Prop := slowRow.holds Tryd.pinned (OpenSpec.ofChange slowWrong)

/-- 'skirmishkeep.Way': WHATEVER THE INPUT: true; the input reads as it did. -/
def waySpec : ChangeSpec := { name := "way", fn := fun _ => fun
  | [d1, d2, d3] => { results := [.lit (.bool true)], args := [d1, d2, d3] }
  | _ => none }
def wayRow : OpenClaim := { program := "ytapabahhfanmmaadoor", sum := "13c19a69f420de683594f75595d5a88494064066ff118943ad7778cd1c080906", func := "skirmish/skirmishkeep.Way", spec := "way", unfollowed := true, recurses := true, named := ["skirmish/land.sides"], plainKeys := false, apart := false, laid := [("skirmish/land.sides", laid_skirmish_land_sides)] }
def WaySaid : Prop := wayRow.holds Tryd.pinned (OpenSpec.ofChange waySpec)

/-- ITS FALSE NEIGHBOUR: 'it returns false'. Refute it at one input. -/
def wayWrong : ChangeSpec := { name := "way", fn := fun _ => fun
  | [d1, d2, d3] => { results := [.lit (.bool false)], args := [d1, d2, d3] }
  | _ => none }
def WayWrongFalsely : Prop := wayRow.holds Tryd.pinned (OpenSpec.ofChange wayWrong)

/-- 'skirmishkeep.Alike': WHATEVER THE INPUT: true; the input reads as it did. -/
def alikeSpec : ChangeSpec := { name := "alike", fn := fun _ => fun
  | [d1, d2, d3] => { results := [.lit (.bool true)], args := [d1, d2, d3] }
  | _ => none }
def alikeRow : OpenClaim := { program := "ytapabahhfanmmaadoor", sum := "13c19a69f420de683594f75595d5a88494064066ff118943ad7778cd1c080906", func := "skirmish/skirmishkeep.Alike", spec := "alike", unfollowed := true, recurses := true, named := ["skirmish/land.sides"], plainKeys := false, apart := false, laid := [("skirmish/land.sides", laid_skirmish_land_sides)] }
def AlikeSaid : Prop := alikeRow.holds Tryd.pinned (OpenSpec.ofChange alikeSpec)

/-- ITS FALSE NEIGHBOUR: 'it returns false'. Refute it at one input. -/
def alikeWrong : ChangeSpec := { name := "alike", fn := fun _ => fun
  | [d1, d2, d3] => { results := [.lit (.bool false)], args := [d1, d2, d3] }
  | _ => none }
def AlikeWrongFalsely : Prop := alikeRow.holds Tryd.pinned (OpenSpec.ofChange alikeWrong)

/- THE SECOND FORM. 'bulk': how many values and letters a reading holds, each counted each time it is reached (what is shared counts as often as it is met; a slice's spare places count too). A statement '..UptoSaid' is the law's where the arguments, and the package variables that the reading takes, are together of bulk at most 1048576: NARROWER than '..Said'. Prove '..Said' where nothing that the law and all that it calls make is longer than what came in: it says more and counts as full. Else prove '..UptoSaid'. A law counts once. -/
mutual
def uptoBulk {H : Type} : DataW H → Nat
  | .lit (.string bytes) => bytes.length + 1
  | .lit _ => 1
  | .nil => 1
  | .ptr d => uptoBulk d + 1
  | .slice elems spare => uptoBulkAll elems + uptoBulkAll spare + 1
  | .agg parts => uptoBulkAll parts + 1
  | .iface _ d => uptoBulk d + 1
  | .map entries => uptoBulkEntries entries + 1
  | .held _ => 1
def uptoBulkAll {H : Type} : List (DataW H) → Nat
  | [] => 0
  | d :: r => uptoBulk d + uptoBulkAll r
def uptoBulkEntries {H : Type} : List (Lit × DataW H) → Nat
  | [] => 0
  | x :: r => uptoBulkEntry x + uptoBulkEntries r
def uptoBulkEntry {H : Type} : Lit × DataW H → Nat
  | (.string bytes, d) => bytes.length + uptoBulk d + 1
  | (_, d) => uptoBulk d + 1
 end
def uptoSmall : (H : Type) → List (DataW H) → Bool := fun _ ds => decide (uptoBulkAll ds ≤ 1048576)
def OpenSpec.upto (s : _root_.Go.ChangeSpec) : _root_.Go.OpenSpec := { _root_.Go.OpenSpec.ofChange s with cond := some uptoSmall }

/-- 'skirmishkeep.Kept', WHERE WHAT IT READS IS OF BULK AT MOST 1048576: true; the input reads as it did. -/
def keptUptoRow : OpenClaim := { program := "ytapabahhfanmmaadoor", sum := "13c19a69f420de683594f75595d5a88494064066ff118943ad7778cd1c080906", func := "skirmish/skirmishkeep.Kept", spec := "kept", unfollowed := true, recurses := true, named := ["skirmish/land.sides"], plainKeys := false, apart := false, laid := [("skirmish/land.sides", laid_skirmish_land_sides)], narrowed := true }
def KeptUptoSaid : Prop := keptUptoRow.holds Tryd.pinned (OpenSpec.upto keptSpec)

/-- 'skirmishkeep.Slow', WHERE WHAT IT READS IS OF BULK AT MOST 1048576: true; the input reads as it did. -/
def slowUptoRow : OpenClaim := { program := "ytapabahhfanmmaadoor", sum := "13c19a69f420de683594f75595d5a88494064066ff118943ad7778cd1c080906", func := "skirmish/skirmishkeep.Slow", spec := "slow", unfollowed := true, recurses := true, named := ["skirmish/land.sides"], plainKeys := false, apart := false, laid := [("skirmish/land.sides", laid_skirmish_land_sides)], narrowed := true }
def SlowUptoSaid : Prop := slowUptoRow.holds Tryd.pinned (OpenSpec.upto slowSpec)

/-- 'skirmishkeep.Way', WHERE WHAT IT READS IS OF BULK AT MOST 1048576: true; the input reads as it did. -/
def wayUptoRow : OpenClaim := { program := "ytapabahhfanmmaadoor", sum := "13c19a69f420de683594f75595d5a88494064066ff118943ad7778cd1c080906", func := "skirmish/skirmishkeep.Way", spec := "way", unfollowed := true, recurses := true, named := ["skirmish/land.sides"], plainKeys := false, apart := false, laid := [("skirmish/land.sides", laid_skirmish_land_sides)], narrowed := true }
def WayUptoSaid : Prop := wayUptoRow.holds Tryd.pinned (OpenSpec.upto waySpec)

/-- 'skirmishkeep.Alike', WHERE WHAT IT READS IS OF BULK AT MOST 1048576: true; the input reads as it did. -/
def alikeUptoRow : OpenClaim := { program := "ytapabahhfanmmaadoor", sum := "13c19a69f420de683594f75595d5a88494064066ff118943ad7778cd1c080906", func := "skirmish/skirmishkeep.Alike", spec := "alike", unfollowed := true, recurses := true, named := ["skirmish/land.sides"], plainKeys := false, apart := false, laid := [("skirmish/land.sides", laid_skirmish_land_sides)], narrowed := true }
def AlikeUptoSaid : Prop := alikeUptoRow.holds Tryd.pinned (OpenSpec.upto alikeSpec)

end Rows
end Go.Proofs.YtapabahhfanmmaaDoor
