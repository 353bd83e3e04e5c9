/-
  NARROWER THAN 'FOR EVERY INPUT', by the rows' own cells (each row's printed sentence says how): EntityPlays: laid · EntitySends: laid · EntityTells: laid · EntityGives: laid · EntityTwice: laid · EntityDeaf: laid.
  DERIVED. THE GIVEN ROWS OF THIS SEAT. 6 by the template 'for every input the law returns true; each argument reads behind the call as it read before'; 0 by the template 'total and deterministic' (their statements: YtidemohpngkedabGreatDoorTotals.lean).
  GIVEN WITH THE SEED: the statements are not yours to turn. If you find one false, say at which input.
  Laid BY PROGRAM, IN A SANDBOX (cutbox-rows.mjs): the forced cells as the released guide's own fill.sh prints them over the translation 6fdc53532175e615… (all of the seat's roots in one cut). By AI agents, Wed Nov 11 2026. No macro, syntax, notation, axiom, sorry.
-/
import Derived.Test.YtidemohpngkedabGreatDoorChecked
import GoSem.Claim
import GoSem.ClaimJoined
import GoSem.ClaimMapViews
import Derived.JoinedTies
import Derived.KernelRfl
namespace Go.Proofs.YtidemohpngkedabGreatDoor
/- THE CELL 'sum', in the pinned program and in every row, IS THE sha256 OF THE DUMP (.gsa) THAT YtidemohpngkedabGreatDoorProg.lean LOADS. Nothing in Lean hashes anything: it is a label: what it is worth is what the hold of that sum in a sandbox is worth. -/
noncomputable def Tryz.pinned : Pinned := { name := "ytidemohpngkedabgreatdoor", sum := "6fdc53532175e61551c50558d56333bc6aa9750593f7e24a70ad1981b160325f", checked := Tryz.checked }
namespace Rows
def none {H : Type} : Left H := { results := [], args := [] }

/- WHAT THE LISTED PACKAGE-LEVEL VARIABLES READ AS WHEN THE CALL BEGINS. Each datum BY PROGRAM (the guide's laid-datum.mjs) off the statement by which the dump's own 'gosem.cut.vars' lays the variable. In a bare row this is a premise. The card (YtidemohpngkedabGreatDoorCards.lean) ties it to the program's text. -/
def laid_lapwing_frame_commandsAlone {H : Type} : DataW H := .agg [.lit (.bool true), .lit (.bool false), .lit (.bool false), .lit (.bool false), .lit (.bool true), .lit (.bool false), .lit (.bool true), .lit (.bool true), .lit (.bool false), .lit (.bool false)]
def laid_lapwing_frame_responsesAlone {H : Type} : DataW H := .agg [.lit (.bool false), .lit (.bool false), .lit (.bool false), .lit (.bool false), .lit (.bool false), .lit (.bool true), .lit (.bool false), .lit (.bool false), .lit (.bool true), .lit (.bool true)]
def laid_lapwing_ctrl_firstOctets {H : Type} : DataW H := .agg [.lit (.int .u8 0), .lit (.int .u8 1), .lit (.int .u8 5), .lit (.int .u8 9), .lit (.int .u8 111), .lit (.int .u8 15), .lit (.int .u8 3), .lit (.int .u8 67), .lit (.int .u8 99), .lit (.int .u8 135)]

/-- 'lapwinglaw14.EntityPlays': WHATEVER THE INPUT: true; the input reads as it did. -/
def entityPlaysSpec : ChangeSpec := { name := "entityPlays", fn := fun _ => fun
  | [d1, d2, d3] => { results := [.lit (.bool true)], args := [d1, d2, d3] }
  | _ => none }
def entityPlaysRow : OpenClaim := { program := "ytidemohpngkedabgreatdoor", sum := "6fdc53532175e61551c50558d56333bc6aa9750593f7e24a70ad1981b160325f", func := "lapwing/lapwinglaw14.EntityPlays", spec := "entityPlays", named := ["lapwing/frame.responsesAlone", "lapwing/frame.commandsAlone"], apart := false, laid := [("lapwing/frame.commandsAlone", laid_lapwing_frame_commandsAlone), ("lapwing/frame.responsesAlone", laid_lapwing_frame_responsesAlone)] }
def EntityPlaysSaid : Prop := entityPlaysRow.holds Tryz.pinned (OpenSpec.ofChange entityPlaysSpec)

/-- ITS FALSE NEIGHBOUR: 'it returns false'. Refute it at one input. -/
def entityPlaysWrong : ChangeSpec := { name := "entityPlays", fn := fun _ => fun
  | [d1, d2, d3] => { results := [.lit (.bool false)], args := [d1, d2, d3] }
  | _ => none }
def EntityPlaysWrongFalsely : Prop := entityPlaysRow.holds Tryz.pinned (OpenSpec.ofChange entityPlaysWrong)

/-- 'lapwinglaw14.EntitySends': WHATEVER THE INPUT: true; the input reads as it did. -/
def entitySendsSpec : ChangeSpec := { name := "entitySends", fn := fun _ => fun
  | [d1, d2, d3] => { results := [.lit (.bool true)], args := [d1, d2, d3] }
  | _ => none }
def entitySendsRow : OpenClaim := { program := "ytidemohpngkedabgreatdoor", sum := "6fdc53532175e61551c50558d56333bc6aa9750593f7e24a70ad1981b160325f", func := "lapwing/lapwinglaw14.EntitySends", spec := "entitySends", named := ["lapwing/frame.responsesAlone", "lapwing/frame.commandsAlone", "lapwing/ctrl.firstOctets"], apart := false, laid := [("lapwing/ctrl.firstOctets", laid_lapwing_ctrl_firstOctets), ("lapwing/frame.commandsAlone", laid_lapwing_frame_commandsAlone), ("lapwing/frame.responsesAlone", laid_lapwing_frame_responsesAlone)] }
def EntitySendsSaid : Prop := entitySendsRow.holds Tryz.pinned (OpenSpec.ofChange entitySendsSpec)

/-- ITS FALSE NEIGHBOUR: 'it returns false'. Refute it at one input. -/
def entitySendsWrong : ChangeSpec := { name := "entitySends", fn := fun _ => fun
  | [d1, d2, d3] => { results := [.lit (.bool false)], args := [d1, d2, d3] }
  | _ => none }
def EntitySendsWrongFalsely : Prop := entitySendsRow.holds Tryz.pinned (OpenSpec.ofChange entitySendsWrong)

/-- 'lapwinglaw14.EntityTells': WHATEVER THE INPUT: true; the input reads as it did. -/
def entityTellsSpec : ChangeSpec := { name := "entityTells", fn := fun _ => fun
  | [d1, d2, d3] => { results := [.lit (.bool true)], args := [d1, d2, d3] }
  | _ => none }
def entityTellsRow : OpenClaim := { program := "ytidemohpngkedabgreatdoor", sum := "6fdc53532175e61551c50558d56333bc6aa9750593f7e24a70ad1981b160325f", func := "lapwing/lapwinglaw14.EntityTells", spec := "entityTells", named := ["lapwing/frame.responsesAlone", "lapwing/frame.commandsAlone"], apart := false, laid := [("lapwing/frame.commandsAlone", laid_lapwing_frame_commandsAlone), ("lapwing/frame.responsesAlone", laid_lapwing_frame_responsesAlone)] }
def EntityTellsSaid : Prop := entityTellsRow.holds Tryz.pinned (OpenSpec.ofChange entityTellsSpec)

/-- ITS FALSE NEIGHBOUR: 'it returns false'. Refute it at one input. -/
def entityTellsWrong : ChangeSpec := { name := "entityTells", fn := fun _ => fun
  | [d1, d2, d3] => { results := [.lit (.bool false)], args := [d1, d2, d3] }
  | _ => none }
def EntityTellsWrongFalsely : Prop := entityTellsRow.holds Tryz.pinned (OpenSpec.ofChange entityTellsWrong)

/-- 'lapwinglaw14.EntityGives': WHATEVER THE INPUT: true; the input reads as it did. -/
def entityGivesSpec : ChangeSpec := { name := "entityGives", fn := fun _ => fun
  | [d1, d2, d3] => { results := [.lit (.bool true)], args := [d1, d2, d3] }
  | _ => none }
def entityGivesRow : OpenClaim := { program := "ytidemohpngkedabgreatdoor", sum := "6fdc53532175e61551c50558d56333bc6aa9750593f7e24a70ad1981b160325f", func := "lapwing/lapwinglaw14.EntityGives", spec := "entityGives", named := ["lapwing/frame.responsesAlone", "lapwing/frame.commandsAlone"], apart := false, laid := [("lapwing/frame.commandsAlone", laid_lapwing_frame_commandsAlone), ("lapwing/frame.responsesAlone", laid_lapwing_frame_responsesAlone)] }
def EntityGivesSaid : Prop := entityGivesRow.holds Tryz.pinned (OpenSpec.ofChange entityGivesSpec)

/-- ITS FALSE NEIGHBOUR: 'it returns false'. Refute it at one input. -/
def entityGivesWrong : ChangeSpec := { name := "entityGives", fn := fun _ => fun
  | [d1, d2, d3] => { results := [.lit (.bool false)], args := [d1, d2, d3] }
  | _ => none }
def EntityGivesWrongFalsely : Prop := entityGivesRow.holds Tryz.pinned (OpenSpec.ofChange entityGivesWrong)

/-- 'lapwinglaw14.EntityTwice': WHATEVER THE INPUT: true; the input reads as it did. -/
def entityTwiceSpec : ChangeSpec := { name := "entityTwice", fn := fun _ => fun
  | [d1, d2, d3] => { results := [.lit (.bool true)], args := [d1, d2, d3] }
  | _ => none }
def entityTwiceRow : OpenClaim := { program := "ytidemohpngkedabgreatdoor", sum := "6fdc53532175e61551c50558d56333bc6aa9750593f7e24a70ad1981b160325f", func := "lapwing/lapwinglaw14.EntityTwice", spec := "entityTwice", named := ["lapwing/frame.responsesAlone", "lapwing/frame.commandsAlone"], apart := false, laid := [("lapwing/frame.commandsAlone", laid_lapwing_frame_commandsAlone), ("lapwing/frame.responsesAlone", laid_lapwing_frame_responsesAlone)] }
def EntityTwiceSaid : Prop := entityTwiceRow.holds Tryz.pinned (OpenSpec.ofChange entityTwiceSpec)

/-- ITS FALSE NEIGHBOUR: 'it returns false'. Refute it at one input. -/
def entityTwiceWrong : ChangeSpec := { name := "entityTwice", fn := fun _ => fun
  | [d1, d2, d3] => { results := [.lit (.bool false)], args := [d1, d2, d3] }
  | _ => none }
def EntityTwiceWrongFalsely : Prop := entityTwiceRow.holds Tryz.pinned (OpenSpec.ofChange entityTwiceWrong)

/-- 'lapwinglaw14.EntityDeaf': WHATEVER THE INPUT: true; the input reads as it did. -/
def entityDeafSpec : ChangeSpec := { name := "entityDeaf", fn := fun _ => fun
  | [d1, d2, d3] => { results := [.lit (.bool true)], args := [d1, d2, d3] }
  | _ => none }
def entityDeafRow : OpenClaim := { program := "ytidemohpngkedabgreatdoor", sum := "6fdc53532175e61551c50558d56333bc6aa9750593f7e24a70ad1981b160325f", func := "lapwing/lapwinglaw14.EntityDeaf", spec := "entityDeaf", named := ["lapwing/frame.responsesAlone", "lapwing/frame.commandsAlone"], apart := false, laid := [("lapwing/frame.commandsAlone", laid_lapwing_frame_commandsAlone), ("lapwing/frame.responsesAlone", laid_lapwing_frame_responsesAlone)] }
def EntityDeafSaid : Prop := entityDeafRow.holds Tryz.pinned (OpenSpec.ofChange entityDeafSpec)

/-- ITS FALSE NEIGHBOUR: 'it returns false'. Refute it at one input. -/
def entityDeafWrong : ChangeSpec := { name := "entityDeaf", fn := fun _ => fun
  | [d1, d2, d3] => { results := [.lit (.bool false)], args := [d1, d2, d3] }
  | _ => none }
def EntityDeafWrongFalsely : Prop := entityDeafRow.holds Tryz.pinned (OpenSpec.ofChange entityDeafWrong)

/- THE SECOND FORM. 'bulk': how many values and letters a reading holds, each counted each time it is reached (what is shared counts as often as it is met; a slice's spare places count too). A statement '..UptoSaid' is the law's where the arguments, and the package variables that the reading takes, are together of bulk at most 1048576: NARROWER than '..Said'. Prove '..Said' where nothing that the law and all that it calls make is longer than what came in: it says more and counts as full. Else prove '..UptoSaid'. A law counts once. -/
mutual
def uptoBulk {H : Type} : DataW H → Nat
  | .lit (.string bytes) => bytes.length + 1
  | .lit _ => 1
  | .nil => 1
  | .ptr d => uptoBulk d + 1
  | .slice elems spare => uptoBulkAll elems + uptoBulkAll spare + 1
  | .agg parts => uptoBulkAll parts + 1
  | .iface _ d => uptoBulk d + 1
  | .map entries => uptoBulkEntries entries + 1
  | .held _ => 1
def uptoBulkAll {H : Type} : List (DataW H) → Nat
  | [] => 0
  | d :: r => uptoBulk d + uptoBulkAll r
def uptoBulkEntries {H : Type} : List (Lit × DataW H) → Nat
  | [] => 0
  | x :: r => uptoBulkEntry x + uptoBulkEntries r
def uptoBulkEntry {H : Type} : Lit × DataW H → Nat
  | (.string bytes, d) => bytes.length + uptoBulk d + 1
  | (_, d) => uptoBulk d + 1
 end
def uptoSmall : (H : Type) → List (DataW H) → Bool := fun _ ds => decide (uptoBulkAll ds ≤ 1048576)
def OpenSpec.upto (s : _root_.Go.ChangeSpec) : _root_.Go.OpenSpec := { _root_.Go.OpenSpec.ofChange s with cond := some uptoSmall }

/-- 'lapwinglaw14.EntityPlays', WHERE WHAT IT READS IS OF BULK AT MOST 1048576: true; the input reads as it did. -/
def entityPlaysUptoRow : OpenClaim := { program := "ytidemohpngkedabgreatdoor", sum := "6fdc53532175e61551c50558d56333bc6aa9750593f7e24a70ad1981b160325f", func := "lapwing/lapwinglaw14.EntityPlays", spec := "entityPlays", named := ["lapwing/frame.responsesAlone", "lapwing/frame.commandsAlone"], apart := false, laid := [("lapwing/frame.commandsAlone", laid_lapwing_frame_commandsAlone), ("lapwing/frame.responsesAlone", laid_lapwing_frame_responsesAlone)], narrowed := true }
def EntityPlaysUptoSaid : Prop := entityPlaysUptoRow.holds Tryz.pinned (OpenSpec.upto entityPlaysSpec)

/-- 'lapwinglaw14.EntitySends', WHERE WHAT IT READS IS OF BULK AT MOST 1048576: true; the input reads as it did. -/
def entitySendsUptoRow : OpenClaim := { program := "ytidemohpngkedabgreatdoor", sum := "6fdc53532175e61551c50558d56333bc6aa9750593f7e24a70ad1981b160325f", func := "lapwing/lapwinglaw14.EntitySends", spec := "entitySends", named := ["lapwing/frame.responsesAlone", "lapwing/frame.commandsAlone", "lapwing/ctrl.firstOctets"], apart := false, laid := [("lapwing/ctrl.firstOctets", laid_lapwing_ctrl_firstOctets), ("lapwing/frame.commandsAlone", laid_lapwing_frame_commandsAlone), ("lapwing/frame.responsesAlone", laid_lapwing_frame_responsesAlone)], narrowed := true }
def EntitySendsUptoSaid : Prop := entitySendsUptoRow.holds Tryz.pinned (OpenSpec.upto entitySendsSpec)

/-- 'lapwinglaw14.EntityTells', WHERE WHAT IT READS IS OF BULK AT MOST 1048576: true; the input reads as it did. -/
def entityTellsUptoRow : OpenClaim := { program := "ytidemohpngkedabgreatdoor", sum := "6fdc53532175e61551c50558d56333bc6aa9750593f7e24a70ad1981b160325f", func := "lapwing/lapwinglaw14.EntityTells", spec := "entityTells", named := ["lapwing/frame.responsesAlone", "lapwing/frame.commandsAlone"], apart := false, laid := [("lapwing/frame.commandsAlone", laid_lapwing_frame_commandsAlone), ("lapwing/frame.responsesAlone", laid_lapwing_frame_responsesAlone)], narrowed := true }
def EntityTellsUptoSaid : Prop := entityTellsUptoRow.holds Tryz.pinned (OpenSpec.upto entityTellsSpec)

/-- 'lapwinglaw14.EntityGives', WHERE WHAT IT READS IS OF BULK AT MOST 1048576: true; the input reads as it did. -/
def entityGivesUptoRow : OpenClaim := { program := "ytidemohpngkedabgreatdoor", sum := "6fdc53532175e61551c50558d56333bc6aa9750593f7e24a70ad1981b160325f", func := "lapwing/lapwinglaw14.EntityGives", spec := "entityGives", named := ["lapwing/frame.responsesAlone", "lapwing/frame.commandsAlone"], apart := false, laid := [("lapwing/frame.commandsAlone", laid_lapwing_frame_commandsAlone), ("lapwing/frame.responsesAlone", laid_lapwing_frame_responsesAlone)], narrowed := true }
def EntityGivesUptoSaid : Prop := entityGivesUptoRow.holds Tryz.pinned (OpenSpec.upto entityGivesSpec)

/-- 'lapwinglaw14.EntityTwice', WHERE WHAT IT READS IS OF BULK AT MOST 1048576: true; the input reads as it did. -/
def entityTwiceUptoRow : OpenClaim := { program := "ytidemohpngkedabgreatdoor", sum := "6fdc53532175e61551c50558d56333bc6aa9750593f7e24a70ad1981b160325f", func := "lapwing/lapwinglaw14.EntityTwice", spec := "entityTwice", named := ["lapwing/frame.responsesAlone", "lapwing/frame.commandsAlone"], apart := false, laid := [("lapwing/frame.commandsAlone", laid_lapwing_frame_commandsAlone), ("lapwing/frame.responsesAlone", laid_lapwing_frame_responsesAlone)], narrowed := true }
def EntityTwiceUptoSaid : Prop := entityTwiceUptoRow.holds Tryz.pinned (OpenSpec.upto entityTwiceSpec)

/-- 'lapwinglaw14.EntityDeaf', WHERE WHAT IT READS IS OF BULK AT MOST 1048576: true; the input reads as it did. -/
def entityDeafUptoRow : OpenClaim := { program := "ytidemohpngkedabgreatdoor", sum := "6fdc53532175e61551c50558d56333bc6aa9750593f7e24a70ad1981b160325f", func := "lapwing/lapwinglaw14.EntityDeaf", spec := "entityDeaf", named := ["lapwing/frame.responsesAlone", "lapwing/frame.commandsAlone"], apart := false, laid := [("lapwing/frame.commandsAlone", laid_lapwing_frame_commandsAlone), ("lapwing/frame.responsesAlone", laid_lapwing_frame_responsesAlone)], narrowed := true }
def EntityDeafUptoSaid : Prop := entityDeafUptoRow.holds Tryz.pinned (OpenSpec.upto entityDeafSpec)

end Rows
end Go.Proofs.YtidemohpngkedabGreatDoor
