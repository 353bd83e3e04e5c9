/-
  NARROWER THAN 'FOR EVERY INPUT', by the rows' own cells (each row's printed sentence says how): TeimsgBack: laid.
  DERIVED. THE GIVEN ROWS OF THIS SEAT. 1 by the template 'for every input the law returns true; each argument reads behind the call as it read before'; 0 by the template 'total and deterministic' (their statements: YtfpdkdaoomakgaaDoorTotals.lean).
  GIVEN WITH THE SEED: the statements are not yours to turn. If you find one false, say at which input.
  Laid BY PROGRAM, IN A SANDBOX (cutbox-rows.mjs): the forced cells as the released guide's own fill.sh prints them over the translation 10f316cbe37c1986… (all of the seat's roots in one cut). By AI agents, Wed Nov 11 2026. No macro, syntax, notation, axiom, sorry.
-/
import Derived.Test.YtfpdkdaoomakgaaDoorChecked
import GoSem.Claim
import GoSem.ClaimJoined
import GoSem.ClaimMapViews
import Derived.JoinedTies
import Derived.KernelRfl
namespace Go.Proofs.YtfpdkdaoomakgaaDoor
/- THE CELL 'sum', in the pinned program and in every row, IS THE sha256 OF THE DUMP (.gsa) THAT YtfpdkdaoomakgaaDoorProg.lean LOADS. Nothing in Lean hashes anything: it is a label: what it is worth is what the hold of that sum in a sandbox is worth. -/
noncomputable def Tryd.pinned : Pinned := { name := "ytfpdkdaoomakgaadoor", sum := "10f316cbe37c1986a4b24e20c79182ca6e318438fb87172e9f49d6506810a35a", checked := Tryd.checked }
namespace Rows
def none {H : Type} : Left H := { results := [], args := [] }

/- WHAT THE LISTED PACKAGE-LEVEL VARIABLES READ AS WHEN THE CALL BEGINS. Each datum BY PROGRAM (the guide's laid-datum.mjs) off the statement by which the dump's own 'gosem.cut.vars' lays the variable. In a bare row this is a premise. The card (YtfpdkdaoomakgaaDoorCards.lean) ties it to the program's text. -/
def laid_lapwing_ctrl_firstOctets {H : Type} : DataW H := .agg [.lit (.int .u8 0), .lit (.int .u8 1), .lit (.int .u8 5), .lit (.int .u8 9), .lit (.int .u8 111), .lit (.int .u8 15), .lit (.int .u8 3), .lit (.int .u8 67), .lit (.int .u8 99), .lit (.int .u8 135)]
def laid_lapwing_frame_commandsAlone {H : Type} : DataW H := .agg [.lit (.bool true), .lit (.bool false), .lit (.bool false), .lit (.bool false), .lit (.bool true), .lit (.bool false), .lit (.bool true), .lit (.bool true), .lit (.bool false), .lit (.bool false)]
def laid_lapwing_frame_responsesAlone {H : Type} : DataW H := .agg [.lit (.bool false), .lit (.bool false), .lit (.bool false), .lit (.bool false), .lit (.bool false), .lit (.bool true), .lit (.bool false), .lit (.bool false), .lit (.bool true), .lit (.bool true)]

/-- 'lapwinglaw07.TeimsgBack': WHATEVER THE INPUT: true; the input reads as it did. -/
def teimsgBackSpec : ChangeSpec := { name := "teimsgBack", fn := fun _ => fun
  | [d] => { results := [.lit (.bool true)], args := [d] }
  | _ => none }
def teimsgBackRow : OpenClaim := { program := "ytfpdkdaoomakgaadoor", sum := "10f316cbe37c1986a4b24e20c79182ca6e318438fb87172e9f49d6506810a35a", func := "lapwing/lapwinglaw07.TeimsgBack", spec := "teimsgBack", named := ["lapwing/frame.responsesAlone", "lapwing/frame.commandsAlone", "lapwing/ctrl.firstOctets"], apart := false, laid := [("lapwing/ctrl.firstOctets", laid_lapwing_ctrl_firstOctets), ("lapwing/frame.commandsAlone", laid_lapwing_frame_commandsAlone), ("lapwing/frame.responsesAlone", laid_lapwing_frame_responsesAlone)] }
def TeimsgBackSaid : Prop := teimsgBackRow.holds Tryd.pinned (OpenSpec.ofChange teimsgBackSpec)

/-- ITS FALSE NEIGHBOUR: 'it returns false'. Refute it at one input. -/
def teimsgBackWrong : ChangeSpec := { name := "teimsgBack", fn := fun _ => fun
  | [d] => { results := [.lit (.bool false)], args := [d] }
  | _ => none }
def TeimsgBackWrongFalsely : Prop := teimsgBackRow.holds Tryd.pinned (OpenSpec.ofChange teimsgBackWrong)

/- THE SECOND FORM. 'bulk': how many values and letters a reading holds, each counted each time it is reached (what is shared counts as often as it is met; a slice's spare places count too). A statement '..UptoSaid' is the law's where the arguments, and the package variables that the reading takes, are together of bulk at most 1048576: NARROWER than '..Said'. Prove '..Said' where nothing that the law and all that it calls make is longer than what came in: it says more and counts as full. Else prove '..UptoSaid'. A law counts once. -/
mutual
def uptoBulk {H : Type} : DataW H → Nat
  | .lit (.string bytes) => bytes.length + 1
  | .lit _ => 1
  | .nil => 1
  | .ptr d => uptoBulk d + 1
  | .slice elems spare => uptoBulkAll elems + uptoBulkAll spare + 1
  | .agg parts => uptoBulkAll parts + 1
  | .iface _ d => uptoBulk d + 1
  | .map entries => uptoBulkEntries entries + 1
  | .held _ => 1
def uptoBulkAll {H : Type} : List (DataW H) → Nat
  | [] => 0
  | d :: r => uptoBulk d + uptoBulkAll r
def uptoBulkEntries {H : Type} : List (Lit × DataW H) → Nat
  | [] => 0
  | x :: r => uptoBulkEntry x + uptoBulkEntries r
def uptoBulkEntry {H : Type} : Lit × DataW H → Nat
  | (.string bytes, d) => bytes.length + uptoBulk d + 1
  | (_, d) => uptoBulk d + 1
 end
def uptoSmall : (H : Type) → List (DataW H) → Bool := fun _ ds => decide (uptoBulkAll ds ≤ 1048576)
def OpenSpec.upto (s : _root_.Go.ChangeSpec) : _root_.Go.OpenSpec := { _root_.Go.OpenSpec.ofChange s with cond := some uptoSmall }

/-- 'lapwinglaw07.TeimsgBack', WHERE WHAT IT READS IS OF BULK AT MOST 1048576: true; the input reads as it did. -/
def teimsgBackUptoRow : OpenClaim := { program := "ytfpdkdaoomakgaadoor", sum := "10f316cbe37c1986a4b24e20c79182ca6e318438fb87172e9f49d6506810a35a", func := "lapwing/lapwinglaw07.TeimsgBack", spec := "teimsgBack", named := ["lapwing/frame.responsesAlone", "lapwing/frame.commandsAlone", "lapwing/ctrl.firstOctets"], apart := false, laid := [("lapwing/ctrl.firstOctets", laid_lapwing_ctrl_firstOctets), ("lapwing/frame.commandsAlone", laid_lapwing_frame_commandsAlone), ("lapwing/frame.responsesAlone", laid_lapwing_frame_responsesAlone)], narrowed := true }
def TeimsgBackUptoSaid : Prop := teimsgBackUptoRow.holds Tryd.pinned (OpenSpec.upto teimsgBackSpec)

end Rows
end Go.Proofs.YtfpdkdaoomakgaaDoor
