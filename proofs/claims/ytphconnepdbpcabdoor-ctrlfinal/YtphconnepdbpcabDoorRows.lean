/-
  NARROWER THAN 'FOR EVERY INPUT', by the rows' own cells (each row's printed sentence says how): CtrlFinal: laid.
  DERIVED. THE GIVEN ROWS OF THIS SEAT. 1 by the template 'for every input the law returns true; each argument reads behind the call as it read before'; 0 by the template 'total and deterministic' (their statements: YtphconnepdbpcabDoorTotals.lean).
  GIVEN WITH THE SEED: the statements are not yours to turn. If you find one false, say at which input.
  Laid BY PROGRAM, IN A SANDBOX (cutbox-rows.mjs): the forced cells as the released guide's own fill.sh prints them over the translation 9d243e7574f6c544… (all of the seat's roots in one cut). By AI agents, Wed Nov 11 2026. No macro, syntax, notation, axiom, sorry.
-/
import Derived.Test.YtphconnepdbpcabDoorChecked
import GoSem.Claim
import GoSem.ClaimJoined
import GoSem.ClaimMapViews
import Derived.JoinedTies
import Derived.KernelRfl
namespace Go.Proofs.YtphconnepdbpcabDoor
/- THE CELL 'sum', in the pinned program and in every row, IS THE sha256 OF THE DUMP (.gsa) THAT YtphconnepdbpcabDoorProg.lean LOADS. Nothing in Lean hashes anything: it is a label: what it is worth is what the hold of that sum in a sandbox is worth. -/
noncomputable def Tryd.pinned : Pinned := { name := "ytphconnepdbpcabdoor", sum := "9d243e7574f6c544aabdbeed66d975e7800a7b5c12a56bbdaee9bded00059222", checked := Tryd.checked }
namespace Rows
def none {H : Type} : Left H := { results := [], args := [] }

/- WHAT THE LISTED PACKAGE-LEVEL VARIABLES READ AS WHEN THE CALL BEGINS. Each datum BY PROGRAM (the guide's laid-datum.mjs) off the statement by which the dump's own 'gosem.cut.vars' lays the variable. In a bare row this is a premise. The card (YtphconnepdbpcabDoorCards.lean) ties it to the program's text. -/
def laid_lapwing_ctrl_firstOctets {H : Type} : DataW H := .agg [.lit (.int .u8 0), .lit (.int .u8 1), .lit (.int .u8 5), .lit (.int .u8 9), .lit (.int .u8 111), .lit (.int .u8 15), .lit (.int .u8 3), .lit (.int .u8 67), .lit (.int .u8 99), .lit (.int .u8 135)]
def laid_lapwing_ctrl_names {H : Type} : DataW H := .agg [.lit (.string [73]), .lit (.string [82, 82]), .lit (.string [82, 78, 82]), .lit (.string [82, 69, 74]), .lit (.string [83, 65, 66, 77, 69]), .lit (.string [68, 77]), .lit (.string [85, 73]), .lit (.string [68, 73, 83, 67]), .lit (.string [85, 65]), .lit (.string [70, 82, 77, 82])]

/-- 'lapwinglaw05.CtrlFinal': WHATEVER THE INPUT: true; the input reads as it did. -/
def ctrlFinalSpec : ChangeSpec := { name := "ctrlFinal", fn := fun _ => fun
  | [d] => { results := [.lit (.bool true)], args := [d] }
  | _ => none }
def ctrlFinalRow : OpenClaim := { program := "ytphconnepdbpcabdoor", sum := "9d243e7574f6c544aabdbeed66d975e7800a7b5c12a56bbdaee9bded00059222", func := "lapwing/lapwinglaw05.CtrlFinal", spec := "ctrlFinal", named := ["lapwing/ctrl.firstOctets", "lapwing/ctrl.names"], apart := false, laid := [("lapwing/ctrl.firstOctets", laid_lapwing_ctrl_firstOctets), ("lapwing/ctrl.names", laid_lapwing_ctrl_names)] }
def CtrlFinalSaid : Prop := ctrlFinalRow.holds Tryd.pinned (OpenSpec.ofChange ctrlFinalSpec)

/-- ITS FALSE NEIGHBOUR: 'it returns false'. Refute it at one input. -/
def ctrlFinalWrong : ChangeSpec := { name := "ctrlFinal", fn := fun _ => fun
  | [d] => { results := [.lit (.bool false)], args := [d] }
  | _ => none }
def CtrlFinalWrongFalsely : Prop := ctrlFinalRow.holds Tryd.pinned (OpenSpec.ofChange ctrlFinalWrong)

/- THE SECOND FORM. 'bulk': how many values and letters a reading holds, each counted each time it is reached (what is shared counts as often as it is met; a slice's spare places count too). A statement '..UptoSaid' is the law's where the arguments, and the package variables that the reading takes, are together of bulk at most 1048576: NARROWER than '..Said'. Prove '..Said' where nothing that the law and all that it calls make is longer than what came in: it says more and counts as full. Else prove '..UptoSaid'. A law counts once. -/
mutual
def uptoBulk {H : Type} : DataW H → Nat
  | .lit (.string bytes) => bytes.length + 1
  | .lit _ => 1
  | .nil => 1
  | .ptr d => uptoBulk d + 1
  | .slice elems spare => uptoBulkAll elems + uptoBulkAll spare + 1
  | .agg parts => uptoBulkAll parts + 1
  | .iface _ d => uptoBulk d + 1
  | .map entries => uptoBulkEntries entries + 1
  | .held _ => 1
def uptoBulkAll {H : Type} : List (DataW H) → Nat
  | [] => 0
  | d :: r => uptoBulk d + uptoBulkAll r
def uptoBulkEntries {H : Type} : List (Lit × DataW H) → Nat
  | [] => 0
  | x :: r => uptoBulkEntry x + uptoBulkEntries r
def uptoBulkEntry {H : Type} : Lit × DataW H → Nat
  | (.string bytes, d) => bytes.length + uptoBulk d + 1
  | (_, d) => uptoBulk d + 1
 end
def uptoSmall : (H : Type) → List (DataW H) → Bool := fun _ ds => decide (uptoBulkAll ds ≤ 1048576)
def OpenSpec.upto (s : _root_.Go.ChangeSpec) : _root_.Go.OpenSpec := { _root_.Go.OpenSpec.ofChange s with cond := some uptoSmall }

/-- 'lapwinglaw05.CtrlFinal', WHERE WHAT IT READS IS OF BULK AT MOST 1048576: true; the input reads as it did. -/
def ctrlFinalUptoRow : OpenClaim := { program := "ytphconnepdbpcabdoor", sum := "9d243e7574f6c544aabdbeed66d975e7800a7b5c12a56bbdaee9bded00059222", func := "lapwing/lapwinglaw05.CtrlFinal", spec := "ctrlFinal", named := ["lapwing/ctrl.firstOctets", "lapwing/ctrl.names"], apart := false, laid := [("lapwing/ctrl.firstOctets", laid_lapwing_ctrl_firstOctets), ("lapwing/ctrl.names", laid_lapwing_ctrl_names)], narrowed := true }
def CtrlFinalUptoSaid : Prop := ctrlFinalUptoRow.holds Tryd.pinned (OpenSpec.upto ctrlFinalSpec)

end Rows
end Go.Proofs.YtphconnepdbpcabDoor
