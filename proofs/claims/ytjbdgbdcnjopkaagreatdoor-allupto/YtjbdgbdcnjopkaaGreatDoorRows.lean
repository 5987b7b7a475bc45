/-
  NARROWER THAN 'FOR EVERY INPUT', by the rows' own cells (each row's printed sentence says how): Looks: laid · Runs: laid · All: laid · Sound: laid · Sums: laid · Moved: laid · Loops: laid · Chosen: laid · Dead: laid.
  DERIVED. THE GIVEN ROWS OF THIS SEAT. 9 by the template 'for every input the law returns true; each argument reads behind the call as it read before'; 0 by the template 'total and deterministic' (their statements: YtjbdgbdcnjopkaaGreatDoorTotals.lean).
  GIVEN WITH THE SEED: the statements are not yours to turn. If you find one false, say at which input.
  Laid BY PROGRAM, IN A SANDBOX (cutbox-rows.mjs): the forced cells as the released guide's own fill.sh prints them over the translation b33cc13416ff8174… (all of the seat's roots in one cut). By AI agents, Wed Nov 11 2026. No macro, syntax, notation, axiom, sorry.
-/
import Derived.Test.YtjbdgbdcnjopkaaGreatDoorChecked
import GoSem.Claim
import GoSem.ClaimJoined
import GoSem.ClaimMapViews
import Derived.JoinedTies
import Derived.KernelRfl
namespace Go.Proofs.YtjbdgbdcnjopkaaGreatDoor
/- THE CELL 'sum', in the pinned program and in every row, IS THE sha256 OF THE DUMP (.gsa) THAT YtjbdgbdcnjopkaaGreatDoorProg.lean LOADS. Nothing in Lean hashes anything: it is a label: what it is worth is what the hold of that sum in a sandbox is worth. -/
noncomputable def Tryz.pinned : Pinned := { name := "ytjbdgbdcnjopkaagreatdoor", sum := "b33cc13416ff8174a510dc6ad34326a922db8d682effcf6dfe7d25ab5e8861d3", checked := Tryz.checked }
namespace Rows
def none {H : Type} : Left H := { results := [], args := [] }

/- WHAT THE LISTED PACKAGE-LEVEL VARIABLES READ AS WHEN THE CALL BEGINS. Each datum BY PROGRAM (the guide's laid-datum.mjs) off the statement by which the dump's own 'gosem.cut.vars' lays the variable. In a bare row this is a premise. The card (YtjbdgbdcnjopkaaGreatDoorCards.lean) ties it to the program's text. -/
def laid_treadle_code_kinds {H : Type} : DataW H := .map [(.int .u8 0, .agg [.lit (.int .i64 0), .lit (.int .i64 0), .lit (.int .i64 0), .lit (.int .i64 0), .lit (.int .i64 0)]), (.int .u8 1, .agg [.lit (.int .i64 1), .lit (.int .i64 0), .lit (.int .i64 0), .lit (.int .i64 0), .lit (.int .i64 0)]), (.int .u8 2, .agg [.lit (.int .i64 2), .lit (.int .i64 1), .lit (.int .i64 0), .lit (.int .i64 0), .lit (.int .i64 0)]), (.int .u8 3, .agg [.lit (.int .i64 3), .lit (.int .i64 1), .lit (.int .i64 0), .lit (.int .i64 0), .lit (.int .i64 0)]), (.int .u8 4, .agg [.lit (.int .i64 4), .lit (.int .i64 1), .lit (.int .i64 0), .lit (.int .i64 0), .lit (.int .i64 0)]), (.int .u8 5, .agg [.lit (.int .i64 5), .lit (.int .i64 0), .lit (.int .i64 0), .lit (.int .i64 0), .lit (.int .i64 0)]), (.int .u8 6, .agg [.lit (.int .i64 6), .lit (.int .i64 0), .lit (.int .i64 0), .lit (.int .i64 0), .lit (.int .i64 0)]), (.int .u8 7, .agg [.lit (.int .i64 7), .lit (.int .i64 4), .lit (.int .i64 0), .lit (.int .i64 0), .lit (.int .i64 0)]), (.int .u8 8, .agg [.lit (.int .i64 8), .lit (.int .i64 4), .lit (.int .i64 0), .lit (.int .i64 0), .lit (.int .i64 0)]), (.int .u8 9, .agg [.lit (.int .i64 9), .lit (.int .i64 5), .lit (.int .i64 0), .lit (.int .i64 0), .lit (.int .i64 0)]), (.int .u8 10, .agg [.lit (.int .i64 10), .lit (.int .i64 0), .lit (.int .i64 0), .lit (.int .i64 0), .lit (.int .i64 0)]), (.int .u8 11, .agg [.lit (.int .i64 11), .lit (.int .i64 2), .lit (.int .i64 0), .lit (.int .i64 0), .lit (.int .i64 0)]), (.int .u8 12, .agg [.lit (.int .i64 12), .lit (.int .i64 0), .lit (.int .i64 0), .lit (.int .i64 0), .lit (.int .i64 0)]), (.int .u8 13, .agg [.lit (.int .i64 13), .lit (.int .i64 0), .lit (.int .i64 0), .lit (.int .i64 0), .lit (.int .i64 0)]), (.int .u8 14, .agg [.lit (.int .i64 14), .lit (.int .i64 3), .lit (.int .i64 0), .lit (.int .i64 0), .lit (.int .i64 0)]), (.int .u8 15, .agg [.lit (.int .i64 15), .lit (.int .i64 3), .lit (.int .i64 0), .lit (.int .i64 0), .lit (.int .i64 0)]), (.int .u8 16, .agg [.lit (.int .i64 16), .lit (.int .i64 3), .lit (.int .i64 0), .lit (.int .i64 0), .lit (.int .i64 0)]), (.int .u8 20, .agg [.lit (.int .i64 17), .lit (.int .i64 6), .lit (.int .i64 0), .lit (.int .i64 0), .lit (.int .i64 1)]), (.int .u8 21, .agg [.lit (.int .i64 17), .lit (.int .i64 7), .lit (.int .i64 0), .lit (.int .i64 0), .lit (.int .i64 2)]), (.int .u8 30, .agg [.lit (.int .i64 18), .lit (.int .i64 0), .lit (.int .i64 2), .lit (.int .i64 1), .lit (.int .i64 1)]), (.int .u8 31, .agg [.lit (.int .i64 19), .lit (.int .i64 0), .lit (.int .i64 2), .lit (.int .i64 1), .lit (.int .i64 1)]), (.int .u8 32, .agg [.lit (.int .i64 20), .lit (.int .i64 0), .lit (.int .i64 2), .lit (.int .i64 1), .lit (.int .i64 1)]), (.int .u8 33, .agg [.lit (.int .i64 21), .lit (.int .i64 0), .lit (.int .i64 2), .lit (.int .i64 1), .lit (.int .i64 1)]), (.int .u8 34, .agg [.lit (.int .i64 22), .lit (.int .i64 0), .lit (.int .i64 2), .lit (.int .i64 1), .lit (.int .i64 1)]), (.int .u8 35, .agg [.lit (.int .i64 23), .lit (.int .i64 0), .lit (.int .i64 2), .lit (.int .i64 1), .lit (.int .i64 1)]), (.int .u8 36, .agg [.lit (.int .i64 24), .lit (.int .i64 0), .lit (.int .i64 2), .lit (.int .i64 1), .lit (.int .i64 1)]), (.int .u8 37, .agg [.lit (.int .i64 25), .lit (.int .i64 0), .lit (.int .i64 2), .lit (.int .i64 1), .lit (.int .i64 1)]), (.int .u8 38, .agg [.lit (.int .i64 26), .lit (.int .i64 0), .lit (.int .i64 2), .lit (.int .i64 1), .lit (.int .i64 1)]), (.int .u8 39, .agg [.lit (.int .i64 27), .lit (.int .i64 0), .lit (.int .i64 2), .lit (.int .i64 1), .lit (.int .i64 1)]), (.int .u8 40, .agg [.lit (.int .i64 28), .lit (.int .i64 0), .lit (.int .i64 2), .lit (.int .i64 1), .lit (.int .i64 1)]), (.int .u8 41, .agg [.lit (.int .i64 29), .lit (.int .i64 0), .lit (.int .i64 2), .lit (.int .i64 1), .lit (.int .i64 1)]), (.int .u8 42, .agg [.lit (.int .i64 30), .lit (.int .i64 0), .lit (.int .i64 1), .lit (.int .i64 1), .lit (.int .i64 1)]), (.int .u8 50, .agg [.lit (.int .i64 18), .lit (.int .i64 0), .lit (.int .i64 2), .lit (.int .i64 2), .lit (.int .i64 2)]), (.int .u8 51, .agg [.lit (.int .i64 19), .lit (.int .i64 0), .lit (.int .i64 2), .lit (.int .i64 2), .lit (.int .i64 2)]), (.int .u8 52, .agg [.lit (.int .i64 20), .lit (.int .i64 0), .lit (.int .i64 2), .lit (.int .i64 2), .lit (.int .i64 2)]), (.int .u8 53, .agg [.lit (.int .i64 21), .lit (.int .i64 0), .lit (.int .i64 2), .lit (.int .i64 2), .lit (.int .i64 2)]), (.int .u8 54, .agg [.lit (.int .i64 22), .lit (.int .i64 0), .lit (.int .i64 2), .lit (.int .i64 2), .lit (.int .i64 2)]), (.int .u8 55, .agg [.lit (.int .i64 23), .lit (.int .i64 0), .lit (.int .i64 2), .lit (.int .i64 2), .lit (.int .i64 2)]), (.int .u8 56, .agg [.lit (.int .i64 24), .lit (.int .i64 0), .lit (.int .i64 2), .lit (.int .i64 2), .lit (.int .i64 2)]), (.int .u8 57, .agg [.lit (.int .i64 25), .lit (.int .i64 0), .lit (.int .i64 2), .lit (.int .i64 2), .lit (.int .i64 2)]), (.int .u8 58, .agg [.lit (.int .i64 26), .lit (.int .i64 0), .lit (.int .i64 2), .lit (.int .i64 2), .lit (.int .i64 2)]), (.int .u8 59, .agg [.lit (.int .i64 27), .lit (.int .i64 0), .lit (.int .i64 2), .lit (.int .i64 2), .lit (.int .i64 2)]), (.int .u8 60, .agg [.lit (.int .i64 28), .lit (.int .i64 0), .lit (.int .i64 2), .lit (.int .i64 2), .lit (.int .i64 1)]), (.int .u8 61, .agg [.lit (.int .i64 29), .lit (.int .i64 0), .lit (.int .i64 2), .lit (.int .i64 2), .lit (.int .i64 1)]), (.int .u8 62, .agg [.lit (.int .i64 30), .lit (.int .i64 0), .lit (.int .i64 1), .lit (.int .i64 2), .lit (.int .i64 1)]), (.int .u8 70, .agg [.lit (.int .i64 31), .lit (.int .i64 0), .lit (.int .i64 1), .lit (.int .i64 2), .lit (.int .i64 1)]), (.int .u8 71, .agg [.lit (.int .i64 32), .lit (.int .i64 0), .lit (.int .i64 1), .lit (.int .i64 1), .lit (.int .i64 2)])]

/-- 'treadlelaw.Looks': WHATEVER THE INPUT: true; the input reads as it did. -/
def looksSpec : ChangeSpec := { name := "looks", fn := fun _ => fun
  | [d] => { results := [.lit (.bool true)], args := [d] }
  | _ => none }
def looksRow : OpenClaim := { program := "ytjbdgbdcnjopkaagreatdoor", sum := "b33cc13416ff8174a510dc6ad34326a922db8d682effcf6dfe7d25ab5e8861d3", func := "treadle/treadlelaw.Looks", spec := "looks", unfollowed := true, recurses := true, named := ["treadle/code.kinds"], apart := false, laid := [("treadle/code.kinds", laid_treadle_code_kinds)] }
def LooksSaid : Prop := looksRow.holds Tryz.pinned (OpenSpec.ofChange looksSpec)

/-- ITS FALSE NEIGHBOUR: 'it returns false'. Refute it at one input. -/
def looksWrong : ChangeSpec := { name := "looks", fn := fun _ => fun
  | [d] => { results := [.lit (.bool false)], args := [d] }
  | _ => none }
def LooksWrongFalsely : Prop := looksRow.holds Tryz.pinned (OpenSpec.ofChange looksWrong)

/-- 'treadlelaw.Runs': WHATEVER THE INPUT: true; the input reads as it did. -/
def runsSpec : ChangeSpec := { name := "runs", fn := fun _ => fun
  | [d1, d2, d3, d4] => { results := [.lit (.bool true)], args := [d1, d2, d3, d4] }
  | _ => none }
def runsRow : OpenClaim := { program := "ytjbdgbdcnjopkaagreatdoor", sum := "b33cc13416ff8174a510dc6ad34326a922db8d682effcf6dfe7d25ab5e8861d3", func := "treadle/treadlelaw.Runs", spec := "runs", unfollowed := true, recurses := true, named := ["treadle/code.kinds"], apart := false, laid := [("treadle/code.kinds", laid_treadle_code_kinds)] }
def RunsSaid : Prop := runsRow.holds Tryz.pinned (OpenSpec.ofChange runsSpec)

/-- ITS FALSE NEIGHBOUR: 'it returns false'. Refute it at one input. -/
def runsWrong : ChangeSpec := { name := "runs", fn := fun _ => fun
  | [d1, d2, d3, d4] => { results := [.lit (.bool false)], args := [d1, d2, d3, d4] }
  | _ => none }
def RunsWrongFalsely : Prop := runsRow.holds Tryz.pinned (OpenSpec.ofChange runsWrong)

/-- 'treadlelaw.All': WHATEVER THE INPUT: true; the input reads as it did. -/
def allSpec : ChangeSpec := { name := "all", fn := fun _ => fun
  | [d] => { results := [.lit (.bool true)], args := [d] }
  | _ => none }
def allRow : OpenClaim := { program := "ytjbdgbdcnjopkaagreatdoor", sum := "b33cc13416ff8174a510dc6ad34326a922db8d682effcf6dfe7d25ab5e8861d3", func := "treadle/treadlelaw.All", spec := "all", unfollowed := true, recurses := true, named := ["treadle/code.kinds"], apart := false, laid := [("treadle/code.kinds", laid_treadle_code_kinds)] }
def AllSaid : Prop := allRow.holds Tryz.pinned (OpenSpec.ofChange allSpec)

/-- ITS FALSE NEIGHBOUR: 'it returns false'. Refute it at one input. -/
def allWrong : ChangeSpec := { name := "all", fn := fun _ => fun
  | [d] => { results := [.lit (.bool false)], args := [d] }
  | _ => none }
def AllWrongFalsely : Prop := allRow.holds Tryz.pinned (OpenSpec.ofChange allWrong)

/-- 'treadlekeep.Sound': WHATEVER THE INPUT: true; the input reads as it did. -/
def soundSpec : ChangeSpec := { name := "sound", fn := fun _ => fun
  | [d1, d2, d3] => { results := [.lit (.bool true)], args := [d1, d2, d3] }
  | _ => none }
def soundRow : OpenClaim := { program := "ytjbdgbdcnjopkaagreatdoor", sum := "b33cc13416ff8174a510dc6ad34326a922db8d682effcf6dfe7d25ab5e8861d3", func := "treadle/treadlekeep.Sound", spec := "sound", unfollowed := true, recurses := true, named := ["treadle/code.kinds"], apart := false, laid := [("treadle/code.kinds", laid_treadle_code_kinds)] }
def SoundSaid : Prop := soundRow.holds Tryz.pinned (OpenSpec.ofChange soundSpec)

/-- ITS FALSE NEIGHBOUR: 'it returns false'. Refute it at one input. -/
def soundWrong : ChangeSpec := { name := "sound", fn := fun _ => fun
  | [d1, d2, d3] => { results := [.lit (.bool false)], args := [d1, d2, d3] }
  | _ => none }
def SoundWrongFalsely : Prop := soundRow.holds Tryz.pinned (OpenSpec.ofChange soundWrong)

/-- 'treadlekeep.Sums': WHATEVER THE INPUT: true; the input reads as it did. -/
def sumsSpec : ChangeSpec := { name := "sums", fn := fun _ => fun
  | [d1, d2, d3] => { results := [.lit (.bool true)], args := [d1, d2, d3] }
  | _ => none }
def sumsRow : OpenClaim := { program := "ytjbdgbdcnjopkaagreatdoor", sum := "b33cc13416ff8174a510dc6ad34326a922db8d682effcf6dfe7d25ab5e8861d3", func := "treadle/treadlekeep.Sums", spec := "sums", unfollowed := true, recurses := true, named := ["treadle/code.kinds"], apart := false, laid := [("treadle/code.kinds", laid_treadle_code_kinds)] }
def SumsSaid : Prop := sumsRow.holds Tryz.pinned (OpenSpec.ofChange sumsSpec)

/-- ITS FALSE NEIGHBOUR: 'it returns false'. Refute it at one input. -/
def sumsWrong : ChangeSpec := { name := "sums", fn := fun _ => fun
  | [d1, d2, d3] => { results := [.lit (.bool false)], args := [d1, d2, d3] }
  | _ => none }
def SumsWrongFalsely : Prop := sumsRow.holds Tryz.pinned (OpenSpec.ofChange sumsWrong)

/-- 'treadlekeep.Moved': WHATEVER THE INPUT: true; the input reads as it did. -/
def movedSpec : ChangeSpec := { name := "moved", fn := fun _ => fun
  | [d1, d2] => { results := [.lit (.bool true)], args := [d1, d2] }
  | _ => none }
def movedRow : OpenClaim := { program := "ytjbdgbdcnjopkaagreatdoor", sum := "b33cc13416ff8174a510dc6ad34326a922db8d682effcf6dfe7d25ab5e8861d3", func := "treadle/treadlekeep.Moved", spec := "moved", unfollowed := true, recurses := true, named := ["treadle/code.kinds"], apart := false, laid := [("treadle/code.kinds", laid_treadle_code_kinds)] }
def MovedSaid : Prop := movedRow.holds Tryz.pinned (OpenSpec.ofChange movedSpec)

/-- ITS FALSE NEIGHBOUR: 'it returns false'. Refute it at one input. -/
def movedWrong : ChangeSpec := { name := "moved", fn := fun _ => fun
  | [d1, d2] => { results := [.lit (.bool false)], args := [d1, d2] }
  | _ => none }
def MovedWrongFalsely : Prop := movedRow.holds Tryz.pinned (OpenSpec.ofChange movedWrong)

/-- 'treadlekeep.Loops': WHATEVER THE INPUT: true; the input reads as it did. -/
def loopsSpec : ChangeSpec := { name := "loops", fn := fun _ => fun
  | [d] => { results := [.lit (.bool true)], args := [d] }
  | _ => none }
def loopsRow : OpenClaim := { program := "ytjbdgbdcnjopkaagreatdoor", sum := "b33cc13416ff8174a510dc6ad34326a922db8d682effcf6dfe7d25ab5e8861d3", func := "treadle/treadlekeep.Loops", spec := "loops", unfollowed := true, recurses := true, named := ["treadle/code.kinds"], apart := false, laid := [("treadle/code.kinds", laid_treadle_code_kinds)] }
def LoopsSaid : Prop := loopsRow.holds Tryz.pinned (OpenSpec.ofChange loopsSpec)

/-- ITS FALSE NEIGHBOUR: 'it returns false'. Refute it at one input. -/
def loopsWrong : ChangeSpec := { name := "loops", fn := fun _ => fun
  | [d] => { results := [.lit (.bool false)], args := [d] }
  | _ => none }
def LoopsWrongFalsely : Prop := loopsRow.holds Tryz.pinned (OpenSpec.ofChange loopsWrong)

/-- 'treadlekeep.Chosen': WHATEVER THE INPUT: true; the input reads as it did. -/
def chosenSpec : ChangeSpec := { name := "chosen", fn := fun _ => fun
  | [d1, d2] => { results := [.lit (.bool true)], args := [d1, d2] }
  | _ => none }
def chosenRow : OpenClaim := { program := "ytjbdgbdcnjopkaagreatdoor", sum := "b33cc13416ff8174a510dc6ad34326a922db8d682effcf6dfe7d25ab5e8861d3", func := "treadle/treadlekeep.Chosen", spec := "chosen", unfollowed := true, recurses := true, named := ["treadle/code.kinds"], apart := false, laid := [("treadle/code.kinds", laid_treadle_code_kinds)] }
def ChosenSaid : Prop := chosenRow.holds Tryz.pinned (OpenSpec.ofChange chosenSpec)

/-- ITS FALSE NEIGHBOUR: 'it returns false'. Refute it at one input. -/
def chosenWrong : ChangeSpec := { name := "chosen", fn := fun _ => fun
  | [d1, d2] => { results := [.lit (.bool false)], args := [d1, d2] }
  | _ => none }
def ChosenWrongFalsely : Prop := chosenRow.holds Tryz.pinned (OpenSpec.ofChange chosenWrong)

/-- 'treadlekeep.Dead': WHATEVER THE INPUT: true; the input reads as it did. -/
def deadSpec : ChangeSpec := { name := "dead", fn := fun _ => fun
  | [d] => { results := [.lit (.bool true)], args := [d] }
  | _ => none }
def deadRow : OpenClaim := { program := "ytjbdgbdcnjopkaagreatdoor", sum := "b33cc13416ff8174a510dc6ad34326a922db8d682effcf6dfe7d25ab5e8861d3", func := "treadle/treadlekeep.Dead", spec := "dead", unfollowed := true, recurses := true, named := ["treadle/code.kinds"], apart := false, laid := [("treadle/code.kinds", laid_treadle_code_kinds)] }
def DeadSaid : Prop := deadRow.holds Tryz.pinned (OpenSpec.ofChange deadSpec)

/-- ITS FALSE NEIGHBOUR: 'it returns false'. Refute it at one input. -/
def deadWrong : ChangeSpec := { name := "dead", fn := fun _ => fun
  | [d] => { results := [.lit (.bool false)], args := [d] }
  | _ => none }
def DeadWrongFalsely : Prop := deadRow.holds Tryz.pinned (OpenSpec.ofChange deadWrong)

/- THE SECOND FORM. 'bulk': how many values and letters a reading holds, each counted each time it is reached (what is shared counts as often as it is met; a slice's spare places count too). A statement '..UptoSaid' is the law's where the arguments, and the package variables that the reading takes, are together of bulk at most 1048576: NARROWER than '..Said'. Prove '..Said' where nothing that the law and all that it calls make is longer than what came in: it says more and counts as full. Else prove '..UptoSaid'. A law counts once. -/
mutual
def uptoBulk {H : Type} : DataW H → Nat
  | .lit (.string bytes) => bytes.length + 1
  | .lit _ => 1
  | .nil => 1
  | .ptr d => uptoBulk d + 1
  | .slice elems spare => uptoBulkAll elems + uptoBulkAll spare + 1
  | .agg parts => uptoBulkAll parts + 1
  | .iface _ d => uptoBulk d + 1
  | .map entries => uptoBulkEntries entries + 1
  | .held _ => 1
def uptoBulkAll {H : Type} : List (DataW H) → Nat
  | [] => 0
  | d :: r => uptoBulk d + uptoBulkAll r
def uptoBulkEntries {H : Type} : List (Lit × DataW H) → Nat
  | [] => 0
  | x :: r => uptoBulkEntry x + uptoBulkEntries r
def uptoBulkEntry {H : Type} : Lit × DataW H → Nat
  | (.string bytes, d) => bytes.length + uptoBulk d + 1
  | (_, d) => uptoBulk d + 1
 end
def uptoSmall : (H : Type) → List (DataW H) → Bool := fun _ ds => decide (uptoBulkAll ds ≤ 1048576)
def OpenSpec.upto (s : _root_.Go.ChangeSpec) : _root_.Go.OpenSpec := { _root_.Go.OpenSpec.ofChange s with cond := some uptoSmall }

/-- 'treadlelaw.Looks', WHERE WHAT IT READS IS OF BULK AT MOST 1048576: true; the input reads as it did. -/
def looksUptoRow : OpenClaim := { program := "ytjbdgbdcnjopkaagreatdoor", sum := "b33cc13416ff8174a510dc6ad34326a922db8d682effcf6dfe7d25ab5e8861d3", func := "treadle/treadlelaw.Looks", spec := "looks", unfollowed := true, recurses := true, named := ["treadle/code.kinds"], apart := false, laid := [("treadle/code.kinds", laid_treadle_code_kinds)], narrowed := true }
def LooksUptoSaid : Prop := looksUptoRow.holds Tryz.pinned (OpenSpec.upto looksSpec)

/-- 'treadlelaw.Runs', WHERE WHAT IT READS IS OF BULK AT MOST 1048576: true; the input reads as it did. -/
def runsUptoRow : OpenClaim := { program := "ytjbdgbdcnjopkaagreatdoor", sum := "b33cc13416ff8174a510dc6ad34326a922db8d682effcf6dfe7d25ab5e8861d3", func := "treadle/treadlelaw.Runs", spec := "runs", unfollowed := true, recurses := true, named := ["treadle/code.kinds"], apart := false, laid := [("treadle/code.kinds", laid_treadle_code_kinds)], narrowed := true }
def RunsUptoSaid : Prop := runsUptoRow.holds Tryz.pinned (OpenSpec.upto runsSpec)

/-- 'treadlelaw.All', WHERE WHAT IT READS IS OF BULK AT MOST 1048576: true; the input reads as it did. -/
def allUptoRow : OpenClaim := { program := "ytjbdgbdcnjopkaagreatdoor", sum := "b33cc13416ff8174a510dc6ad34326a922db8d682effcf6dfe7d25ab5e8861d3", func := "treadle/treadlelaw.All", spec := "all", unfollowed := true, recurses := true, named := ["treadle/code.kinds"], apart := false, laid := [("treadle/code.kinds", laid_treadle_code_kinds)], narrowed := true }
def AllUptoSaid : Prop := allUptoRow.holds Tryz.pinned (OpenSpec.upto allSpec)

/-- 'treadlekeep.Sound', WHERE WHAT IT READS IS OF BULK AT MOST 1048576: true; the input reads as it did. -/
def soundUptoRow : OpenClaim := { program := "ytjbdgbdcnjopkaagreatdoor", sum := "b33cc13416ff8174a510dc6ad34326a922db8d682effcf6dfe7d25ab5e8861d3", func := "treadle/treadlekeep.Sound", spec := "sound", unfollowed := true, recurses := true, named := ["treadle/code.kinds"], apart := false, laid := [("treadle/code.kinds", laid_treadle_code_kinds)], narrowed := true }
def SoundUptoSaid : Prop := soundUptoRow.holds Tryz.pinned (OpenSpec.upto soundSpec)

/-- 'treadlekeep.Sums', WHERE WHAT IT READS IS OF BULK AT MOST 1048576: true; the input reads as it did. -/
def sumsUptoRow : OpenClaim := { program := "ytjbdgbdcnjopkaagreatdoor", sum := "b33cc13416ff8174a510dc6ad34326a922db8d682effcf6dfe7d25ab5e8861d3", func := "treadle/treadlekeep.Sums", spec := "sums", unfollowed := true, recurses := true, named := ["treadle/code.kinds"], apart := false, laid := [("treadle/code.kinds", laid_treadle_code_kinds)], narrowed := true }
def SumsUptoSaid : Prop := sumsUptoRow.holds Tryz.pinned (OpenSpec.upto sumsSpec)

/-- 'treadlekeep.Moved', WHERE WHAT IT READS IS OF BULK AT MOST 1048576: true; the input reads as it did. -/
def movedUptoRow : OpenClaim := { program := "ytjbdgbdcnjopkaagreatdoor", sum := "b33cc13416ff8174a510dc6ad34326a922db8d682effcf6dfe7d25ab5e8861d3", func := "treadle/treadlekeep.Moved", spec := "moved", unfollowed := true, recurses := true, named := ["treadle/code.kinds"], apart := false, laid := [("treadle/code.kinds", laid_treadle_code_kinds)], narrowed := true }
def MovedUptoSaid : Prop := movedUptoRow.holds Tryz.pinned (OpenSpec.upto movedSpec)

/-- 'treadlekeep.Loops', WHERE WHAT IT READS IS OF BULK AT MOST 1048576: true; the input reads as it did. -/
def loopsUptoRow : OpenClaim := { program := "ytjbdgbdcnjopkaagreatdoor", sum := "b33cc13416ff8174a510dc6ad34326a922db8d682effcf6dfe7d25ab5e8861d3", func := "treadle/treadlekeep.Loops", spec := "loops", unfollowed := true, recurses := true, named := ["treadle/code.kinds"], apart := false, laid := [("treadle/code.kinds", laid_treadle_code_kinds)], narrowed := true }
def LoopsUptoSaid : Prop := loopsUptoRow.holds Tryz.pinned (OpenSpec.upto loopsSpec)

/-- 'treadlekeep.Chosen', WHERE WHAT IT READS IS OF BULK AT MOST 1048576: true; the input reads as it did. -/
def chosenUptoRow : OpenClaim := { program := "ytjbdgbdcnjopkaagreatdoor", sum := "b33cc13416ff8174a510dc6ad34326a922db8d682effcf6dfe7d25ab5e8861d3", func := "treadle/treadlekeep.Chosen", spec := "chosen", unfollowed := true, recurses := true, named := ["treadle/code.kinds"], apart := false, laid := [("treadle/code.kinds", laid_treadle_code_kinds)], narrowed := true }
def ChosenUptoSaid : Prop := chosenUptoRow.holds Tryz.pinned (OpenSpec.upto chosenSpec)

/-- 'treadlekeep.Dead', WHERE WHAT IT READS IS OF BULK AT MOST 1048576: true; the input reads as it did. -/
def deadUptoRow : OpenClaim := { program := "ytjbdgbdcnjopkaagreatdoor", sum := "b33cc13416ff8174a510dc6ad34326a922db8d682effcf6dfe7d25ab5e8861d3", func := "treadle/treadlekeep.Dead", spec := "dead", unfollowed := true, recurses := true, named := ["treadle/code.kinds"], apart := false, laid := [("treadle/code.kinds", laid_treadle_code_kinds)], narrowed := true }
def DeadUptoSaid : Prop := deadUptoRow.holds Tryz.pinned (OpenSpec.upto deadSpec)

end Rows
end Go.Proofs.YtjbdgbdcnjopkaaGreatDoor
