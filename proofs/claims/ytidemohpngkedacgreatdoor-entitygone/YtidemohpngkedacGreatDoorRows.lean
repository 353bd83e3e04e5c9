/-
  NARROWER THAN 'FOR EVERY INPUT', by the rows' own cells (each row's printed sentence says how): EntityGone: laid · TopOrder: laid · TopProgress: laid · TopClean: laid · TopUnits: laid · TopMeets: laid.
  DERIVED. THE GIVEN ROWS OF THIS SEAT. 6 by the template 'for every input the law returns true; each argument reads behind the call as it read before'; 0 by the template 'total and deterministic' (their statements: YtidemohpngkedacGreatDoorTotals.lean).
  GIVEN WITH THE SEED: the statements are not yours to turn. If you find one false, say at which input.
  Laid BY PROGRAM, IN A SANDBOX (cutbox-rows.mjs): the forced cells as the released guide's own fill.sh prints them over the translation b03c72fbaceeb646… (all of the seat's roots in one cut). By AI agents, Wed Nov 11 2026. No macro, syntax, notation, axiom, sorry.
-/
import Derived.Test.YtidemohpngkedacGreatDoorChecked
import GoSem.PinnedTables
import GoSem.Claim
import GoSem.ClaimJoined
import GoSem.ClaimMapViews
import Derived.JoinedTies
import Derived.KernelRfl
namespace Go.Proofs.YtidemohpngkedacGreatDoor
/- THE CELL 'sum', in the pinned program and in every row, IS THE sha256 OF THE DUMP (.gsa) THAT YtidemohpngkedacGreatDoorProg.lean LOADS. Nothing in Lean hashes anything: it is a label: what it is worth is what the hold of that sum in a sandbox is worth. -/
noncomputable def Tryz.pinned : Pinned := { name := "ytidemohpngkedacgreatdoor", sum := "b03c72fbaceeb646486612d9a2a28f64d9a54fcdc9f797930c51de40fb9b4793", checked := Tryz.checked }
namespace Rows
def none {H : Type} : Left H := { results := [], args := [] }

/- WHAT THE LISTED PACKAGE-LEVEL VARIABLES READ AS WHEN THE CALL BEGINS. Each datum BY PROGRAM (the guide's laid-datum.mjs) off the statement by which the dump's own 'gosem.cut.vars' lays the variable. In a bare row this is a premise. The card (YtidemohpngkedacGreatDoorCards.lean) ties it to the program's text. -/
def laid_lapwing_frame_commandsAlone {H : Type} : DataW H := .agg [.lit (.bool true), .lit (.bool false), .lit (.bool false), .lit (.bool false), .lit (.bool true), .lit (.bool false), .lit (.bool true), .lit (.bool true), .lit (.bool false), .lit (.bool false)]
def laid_lapwing_frame_responsesAlone {H : Type} : DataW H := .agg [.lit (.bool false), .lit (.bool false), .lit (.bool false), .lit (.bool false), .lit (.bool false), .lit (.bool true), .lit (.bool false), .lit (.bool false), .lit (.bool true), .lit (.bool true)]
def laid_lapwing_ctrl_firstOctets {H : Type} : DataW H := .agg [.lit (.int .u8 0), .lit (.int .u8 1), .lit (.int .u8 5), .lit (.int .u8 9), .lit (.int .u8 111), .lit (.int .u8 15), .lit (.int .u8 3), .lit (.int .u8 67), .lit (.int .u8 99), .lit (.int .u8 135)]
def laid_unicode_utf8_acceptRanges {H : Type} : DataW H := .agg [.agg [.lit (.int .u8 128), .lit (.int .u8 191)], .agg [.lit (.int .u8 160), .lit (.int .u8 191)], .agg [.lit (.int .u8 128), .lit (.int .u8 159)], .agg [.lit (.int .u8 144), .lit (.int .u8 191)], .agg [.lit (.int .u8 128), .lit (.int .u8 143)], .agg [.lit (.int .u8 0), .lit (.int .u8 0)], .agg [.lit (.int .u8 0), .lit (.int .u8 0)], .agg [.lit (.int .u8 0), .lit (.int .u8 0)], .agg [.lit (.int .u8 0), .lit (.int .u8 0)], .agg [.lit (.int .u8 0), .lit (.int .u8 0)], .agg [.lit (.int .u8 0), .lit (.int .u8 0)], .agg [.lit (.int .u8 0), .lit (.int .u8 0)], .agg [.lit (.int .u8 0), .lit (.int .u8 0)], .agg [.lit (.int .u8 0), .lit (.int .u8 0)], .agg [.lit (.int .u8 0), .lit (.int .u8 0)], .agg [.lit (.int .u8 0), .lit (.int .u8 0)]]
/-- One of Go's own tables, pinned by name: the form's constant. -/
def laid_unicode_utf8_first : DataW Unit := Go.Pinned.utf8First

/-- 'lapwinglaw14.EntityGone': WHATEVER THE INPUT: true; the input reads as it did. -/
def entityGoneSpec : ChangeSpec := { name := "entityGone", fn := fun _ => fun
  | [d1, d2] => { results := [.lit (.bool true)], args := [d1, d2] }
  | _ => none }
def entityGoneRow : OpenClaim := { program := "ytidemohpngkedacgreatdoor", sum := "b03c72fbaceeb646486612d9a2a28f64d9a54fcdc9f797930c51de40fb9b4793", func := "lapwing/lapwinglaw14.EntityGone", spec := "entityGone", named := ["lapwing/frame.responsesAlone", "lapwing/frame.commandsAlone"], apart := false, laid := [("lapwing/frame.commandsAlone", laid_lapwing_frame_commandsAlone), ("lapwing/frame.responsesAlone", laid_lapwing_frame_responsesAlone)] }
def EntityGoneSaid : Prop := entityGoneRow.holds Tryz.pinned (OpenSpec.ofChange entityGoneSpec)

/-- ITS FALSE NEIGHBOUR: 'it returns false'. Refute it at one input. -/
def entityGoneWrong : ChangeSpec := { name := "entityGone", fn := fun _ => fun
  | [d1, d2] => { results := [.lit (.bool false)], args := [d1, d2] }
  | _ => none }
def EntityGoneWrongFalsely : Prop := entityGoneRow.holds Tryz.pinned (OpenSpec.ofChange entityGoneWrong)

/-- 'lapwingtop.TopOrder': WHATEVER THE INPUT: true; the input reads as it did. -/
def topOrderSpec : ChangeSpec := { name := "topOrder", fn := fun _ => fun
  | [d1, d2, d3] => { results := [.lit (.bool true)], args := [d1, d2, d3] }
  | _ => none }
def topOrderRow : OpenClaim := { program := "ytidemohpngkedacgreatdoor", sum := "b03c72fbaceeb646486612d9a2a28f64d9a54fcdc9f797930c51de40fb9b4793", func := "lapwing/lapwingtop.TopOrder", spec := "topOrder", inPlace := ["internal/bytealg.CountString", "internal/bytealg.IndexByteString", "internal/bytealg.IndexString", "internal/abi.NoEscape", "internal/bytealg.MakeNoZero"], named := ["lapwing/frame.responsesAlone", "lapwing/frame.commandsAlone", "lapwing/ctrl.firstOctets", "internal/bytealg.MaxLen", "unicode/utf8.first", "unicode/utf8.acceptRanges"], apart := false, laid := [("lapwing/ctrl.firstOctets", laid_lapwing_ctrl_firstOctets), ("unicode/utf8.acceptRanges", laid_unicode_utf8_acceptRanges), ("lapwing/frame.commandsAlone", laid_lapwing_frame_commandsAlone), ("lapwing/frame.responsesAlone", laid_lapwing_frame_responsesAlone), ("unicode/utf8.first", laid_unicode_utf8_first)] }
def TopOrderSaid : Prop := topOrderRow.holds Tryz.pinned (OpenSpec.ofChange topOrderSpec)

/-- ITS FALSE NEIGHBOUR: 'it returns false'. Refute it at one input. -/
def topOrderWrong : ChangeSpec := { name := "topOrder", fn := fun _ => fun
  | [d1, d2, d3] => { results := [.lit (.bool false)], args := [d1, d2, d3] }
  | _ => none }
def TopOrderWrongFalsely : Prop := topOrderRow.holds Tryz.pinned (OpenSpec.ofChange topOrderWrong)

/-- 'lapwingtop.TopProgress': WHATEVER THE INPUT: true; the input reads as it did. -/
def topProgressSpec : ChangeSpec := { name := "topProgress", fn := fun _ => fun
  | [d1, d2, d3] => { results := [.lit (.bool true)], args := [d1, d2, d3] }
  | _ => none }
def topProgressRow : OpenClaim := { program := "ytidemohpngkedacgreatdoor", sum := "b03c72fbaceeb646486612d9a2a28f64d9a54fcdc9f797930c51de40fb9b4793", func := "lapwing/lapwingtop.TopProgress", spec := "topProgress", inPlace := ["internal/bytealg.CountString", "internal/bytealg.IndexByteString", "internal/bytealg.IndexString", "internal/abi.NoEscape", "internal/bytealg.MakeNoZero"], named := ["lapwing/frame.responsesAlone", "lapwing/frame.commandsAlone", "lapwing/ctrl.firstOctets", "internal/bytealg.MaxLen", "unicode/utf8.first", "unicode/utf8.acceptRanges"], apart := false, laid := [("lapwing/ctrl.firstOctets", laid_lapwing_ctrl_firstOctets), ("unicode/utf8.acceptRanges", laid_unicode_utf8_acceptRanges), ("lapwing/frame.commandsAlone", laid_lapwing_frame_commandsAlone), ("lapwing/frame.responsesAlone", laid_lapwing_frame_responsesAlone), ("unicode/utf8.first", laid_unicode_utf8_first)] }
def TopProgressSaid : Prop := topProgressRow.holds Tryz.pinned (OpenSpec.ofChange topProgressSpec)

/-- ITS FALSE NEIGHBOUR: 'it returns false'. Refute it at one input. -/
def topProgressWrong : ChangeSpec := { name := "topProgress", fn := fun _ => fun
  | [d1, d2, d3] => { results := [.lit (.bool false)], args := [d1, d2, d3] }
  | _ => none }
def TopProgressWrongFalsely : Prop := topProgressRow.holds Tryz.pinned (OpenSpec.ofChange topProgressWrong)

/-- 'lapwingtop.TopClean': WHATEVER THE INPUT: true; the input reads as it did. -/
def topCleanSpec : ChangeSpec := { name := "topClean", fn := fun _ => fun
  | [d1, d2, d3] => { results := [.lit (.bool true)], args := [d1, d2, d3] }
  | _ => none }
def topCleanRow : OpenClaim := { program := "ytidemohpngkedacgreatdoor", sum := "b03c72fbaceeb646486612d9a2a28f64d9a54fcdc9f797930c51de40fb9b4793", func := "lapwing/lapwingtop.TopClean", spec := "topClean", inPlace := ["internal/bytealg.CountString", "internal/bytealg.IndexByteString", "internal/bytealg.IndexString", "internal/abi.NoEscape", "internal/bytealg.MakeNoZero"], named := ["lapwing/frame.responsesAlone", "lapwing/frame.commandsAlone", "lapwing/ctrl.firstOctets", "internal/bytealg.MaxLen", "unicode/utf8.first", "unicode/utf8.acceptRanges"], apart := false, laid := [("lapwing/ctrl.firstOctets", laid_lapwing_ctrl_firstOctets), ("unicode/utf8.acceptRanges", laid_unicode_utf8_acceptRanges), ("lapwing/frame.commandsAlone", laid_lapwing_frame_commandsAlone), ("lapwing/frame.responsesAlone", laid_lapwing_frame_responsesAlone), ("unicode/utf8.first", laid_unicode_utf8_first)] }
def TopCleanSaid : Prop := topCleanRow.holds Tryz.pinned (OpenSpec.ofChange topCleanSpec)

/-- ITS FALSE NEIGHBOUR: 'it returns false'. Refute it at one input. -/
def topCleanWrong : ChangeSpec := { name := "topClean", fn := fun _ => fun
  | [d1, d2, d3] => { results := [.lit (.bool false)], args := [d1, d2, d3] }
  | _ => none }
def TopCleanWrongFalsely : Prop := topCleanRow.holds Tryz.pinned (OpenSpec.ofChange topCleanWrong)

/-- 'lapwingtop.TopUnits': WHATEVER THE INPUT: true; the input reads as it did. -/
def topUnitsSpec : ChangeSpec := { name := "topUnits", fn := fun _ => fun
  | [d1, d2] => { results := [.lit (.bool true)], args := [d1, d2] }
  | _ => none }
def topUnitsRow : OpenClaim := { program := "ytidemohpngkedacgreatdoor", sum := "b03c72fbaceeb646486612d9a2a28f64d9a54fcdc9f797930c51de40fb9b4793", func := "lapwing/lapwingtop.TopUnits", spec := "topUnits", inPlace := ["internal/bytealg.CountString", "internal/bytealg.IndexByteString", "internal/bytealg.IndexString", "internal/abi.NoEscape", "internal/bytealg.MakeNoZero"], named := ["lapwing/frame.responsesAlone", "lapwing/frame.commandsAlone", "lapwing/ctrl.firstOctets", "internal/bytealg.MaxLen", "unicode/utf8.first", "unicode/utf8.acceptRanges"], apart := false, laid := [("lapwing/ctrl.firstOctets", laid_lapwing_ctrl_firstOctets), ("unicode/utf8.acceptRanges", laid_unicode_utf8_acceptRanges), ("lapwing/frame.commandsAlone", laid_lapwing_frame_commandsAlone), ("lapwing/frame.responsesAlone", laid_lapwing_frame_responsesAlone), ("unicode/utf8.first", laid_unicode_utf8_first)] }
def TopUnitsSaid : Prop := topUnitsRow.holds Tryz.pinned (OpenSpec.ofChange topUnitsSpec)

/-- ITS FALSE NEIGHBOUR: 'it returns false'. Refute it at one input. -/
def topUnitsWrong : ChangeSpec := { name := "topUnits", fn := fun _ => fun
  | [d1, d2] => { results := [.lit (.bool false)], args := [d1, d2] }
  | _ => none }
def TopUnitsWrongFalsely : Prop := topUnitsRow.holds Tryz.pinned (OpenSpec.ofChange topUnitsWrong)

/-- 'lapwingtop.TopMeets': WHATEVER THE INPUT: true; the input reads as it did. -/
def topMeetsSpec : ChangeSpec := { name := "topMeets", fn := fun _ => fun
  | [d1, d2] => { results := [.lit (.bool true)], args := [d1, d2] }
  | _ => none }
def topMeetsRow : OpenClaim := { program := "ytidemohpngkedacgreatdoor", sum := "b03c72fbaceeb646486612d9a2a28f64d9a54fcdc9f797930c51de40fb9b4793", func := "lapwing/lapwingtop.TopMeets", spec := "topMeets", inPlace := ["internal/bytealg.CountString", "internal/bytealg.IndexByteString", "internal/bytealg.IndexString", "internal/abi.NoEscape", "internal/bytealg.MakeNoZero"], unfollowed := true, recurses := true, named := ["lapwing/frame.responsesAlone", "lapwing/frame.commandsAlone", "lapwing/ctrl.firstOctets", "internal/bytealg.MaxLen", "unicode/utf8.first", "unicode/utf8.acceptRanges"], apart := false, laid := [("lapwing/ctrl.firstOctets", laid_lapwing_ctrl_firstOctets), ("unicode/utf8.acceptRanges", laid_unicode_utf8_acceptRanges), ("lapwing/frame.commandsAlone", laid_lapwing_frame_commandsAlone), ("lapwing/frame.responsesAlone", laid_lapwing_frame_responsesAlone), ("unicode/utf8.first", laid_unicode_utf8_first)] }
def TopMeetsSaid : Prop := topMeetsRow.holds Tryz.pinned (OpenSpec.ofChange topMeetsSpec)

/-- ITS FALSE NEIGHBOUR: 'it returns false'. Refute it at one input. -/
def topMeetsWrong : ChangeSpec := { name := "topMeets", fn := fun _ => fun
  | [d1, d2] => { results := [.lit (.bool false)], args := [d1, d2] }
  | _ => none }
def TopMeetsWrongFalsely : Prop := topMeetsRow.holds Tryz.pinned (OpenSpec.ofChange topMeetsWrong)

/- THE SECOND FORM. 'bulk': how many values and letters a reading holds, each counted each time it is reached (what is shared counts as often as it is met; a slice's spare places count too). A statement '..UptoSaid' is the law's where the arguments, and the package variables that the reading takes, are together of bulk at most 1048576: NARROWER than '..Said'. Prove '..Said' where nothing that the law and all that it calls make is longer than what came in: it says more and counts as full. Else prove '..UptoSaid'. A law counts once. -/
mutual
def uptoBulk {H : Type} : DataW H → Nat
  | .lit (.string bytes) => bytes.length + 1
  | .lit _ => 1
  | .nil => 1
  | .ptr d => uptoBulk d + 1
  | .slice elems spare => uptoBulkAll elems + uptoBulkAll spare + 1
  | .agg parts => uptoBulkAll parts + 1
  | .iface _ d => uptoBulk d + 1
  | .map entries => uptoBulkEntries entries + 1
  | .held _ => 1
def uptoBulkAll {H : Type} : List (DataW H) → Nat
  | [] => 0
  | d :: r => uptoBulk d + uptoBulkAll r
def uptoBulkEntries {H : Type} : List (Lit × DataW H) → Nat
  | [] => 0
  | x :: r => uptoBulkEntry x + uptoBulkEntries r
def uptoBulkEntry {H : Type} : Lit × DataW H → Nat
  | (.string bytes, d) => bytes.length + uptoBulk d + 1
  | (_, d) => uptoBulk d + 1
 end
def uptoSmall : (H : Type) → List (DataW H) → Bool := fun _ ds => decide (uptoBulkAll ds ≤ 1048576)
def OpenSpec.upto (s : _root_.Go.ChangeSpec) : _root_.Go.OpenSpec := { _root_.Go.OpenSpec.ofChange s with cond := some uptoSmall }

/-- 'lapwinglaw14.EntityGone', WHERE WHAT IT READS IS OF BULK AT MOST 1048576: true; the input reads as it did. -/
def entityGoneUptoRow : OpenClaim := { program := "ytidemohpngkedacgreatdoor", sum := "b03c72fbaceeb646486612d9a2a28f64d9a54fcdc9f797930c51de40fb9b4793", func := "lapwing/lapwinglaw14.EntityGone", spec := "entityGone", named := ["lapwing/frame.responsesAlone", "lapwing/frame.commandsAlone"], apart := false, laid := [("lapwing/frame.commandsAlone", laid_lapwing_frame_commandsAlone), ("lapwing/frame.responsesAlone", laid_lapwing_frame_responsesAlone)], narrowed := true }
def EntityGoneUptoSaid : Prop := entityGoneUptoRow.holds Tryz.pinned (OpenSpec.upto entityGoneSpec)

/-- 'lapwingtop.TopOrder', WHERE WHAT IT READS IS OF BULK AT MOST 1048576: true; the input reads as it did. -/
def topOrderUptoRow : OpenClaim := { program := "ytidemohpngkedacgreatdoor", sum := "b03c72fbaceeb646486612d9a2a28f64d9a54fcdc9f797930c51de40fb9b4793", func := "lapwing/lapwingtop.TopOrder", spec := "topOrder", inPlace := ["internal/bytealg.CountString", "internal/bytealg.IndexByteString", "internal/bytealg.IndexString", "internal/abi.NoEscape", "internal/bytealg.MakeNoZero"], named := ["lapwing/frame.responsesAlone", "lapwing/frame.commandsAlone", "lapwing/ctrl.firstOctets", "internal/bytealg.MaxLen", "unicode/utf8.first", "unicode/utf8.acceptRanges"], apart := false, laid := [("lapwing/ctrl.firstOctets", laid_lapwing_ctrl_firstOctets), ("unicode/utf8.acceptRanges", laid_unicode_utf8_acceptRanges), ("lapwing/frame.commandsAlone", laid_lapwing_frame_commandsAlone), ("lapwing/frame.responsesAlone", laid_lapwing_frame_responsesAlone), ("unicode/utf8.first", laid_unicode_utf8_first)], narrowed := true }
def TopOrderUptoSaid : Prop := topOrderUptoRow.holds Tryz.pinned (OpenSpec.upto topOrderSpec)

/-- 'lapwingtop.TopProgress', WHERE WHAT IT READS IS OF BULK AT MOST 1048576: true; the input reads as it did. -/
def topProgressUptoRow : OpenClaim := { program := "ytidemohpngkedacgreatdoor", sum := "b03c72fbaceeb646486612d9a2a28f64d9a54fcdc9f797930c51de40fb9b4793", func := "lapwing/lapwingtop.TopProgress", spec := "topProgress", inPlace := ["internal/bytealg.CountString", "internal/bytealg.IndexByteString", "internal/bytealg.IndexString", "internal/abi.NoEscape", "internal/bytealg.MakeNoZero"], named := ["lapwing/frame.responsesAlone", "lapwing/frame.commandsAlone", "lapwing/ctrl.firstOctets", "internal/bytealg.MaxLen", "unicode/utf8.first", "unicode/utf8.acceptRanges"], apart := false, laid := [("lapwing/ctrl.firstOctets", laid_lapwing_ctrl_firstOctets), ("unicode/utf8.acceptRanges", laid_unicode_utf8_acceptRanges), ("lapwing/frame.commandsAlone", laid_lapwing_frame_commandsAlone), ("lapwing/frame.responsesAlone", laid_lapwing_frame_responsesAlone), ("unicode/utf8.first", laid_unicode_utf8_first)], narrowed := true }
def TopProgressUptoSaid : Prop := topProgressUptoRow.holds Tryz.pinned (OpenSpec.upto topProgressSpec)

/-- 'lapwingtop.TopClean', WHERE WHAT IT READS IS OF BULK AT MOST 1048576: true; the input reads as it did. -/
def topCleanUptoRow : OpenClaim := { program := "ytidemohpngkedacgreatdoor", sum := "b03c72fbaceeb646486612d9a2a28f64d9a54fcdc9f797930c51de40fb9b4793", func := "lapwing/lapwingtop.TopClean", spec := "topClean", inPlace := ["internal/bytealg.CountString", "internal/bytealg.IndexByteString", "internal/bytealg.IndexString", "internal/abi.NoEscape", "internal/bytealg.MakeNoZero"], named := ["lapwing/frame.responsesAlone", "lapwing/frame.commandsAlone", "lapwing/ctrl.firstOctets", "internal/bytealg.MaxLen", "unicode/utf8.first", "unicode/utf8.acceptRanges"], apart := false, laid := [("lapwing/ctrl.firstOctets", laid_lapwing_ctrl_firstOctets), ("unicode/utf8.acceptRanges", laid_unicode_utf8_acceptRanges), ("lapwing/frame.commandsAlone", laid_lapwing_frame_commandsAlone), ("lapwing/frame.responsesAlone", laid_lapwing_frame_responsesAlone), ("unicode/utf8.first", laid_unicode_utf8_first)], narrowed := true }
def TopCleanUptoSaid : Prop := topCleanUptoRow.holds Tryz.pinned (OpenSpec.upto topCleanSpec)

/-- 'lapwingtop.TopUnits', WHERE WHAT IT READS IS OF BULK AT MOST 1048576: true; the input reads as it did. -/
def topUnitsUptoRow : OpenClaim := { program := "ytidemohpngkedacgreatdoor", sum := "b03c72fbaceeb646486612d9a2a28f64d9a54fcdc9f797930c51de40fb9b4793", func := "lapwing/lapwingtop.TopUnits", spec := "topUnits", inPlace := ["internal/bytealg.CountString", "internal/bytealg.IndexByteString", "internal/bytealg.IndexString", "internal/abi.NoEscape", "internal/bytealg.MakeNoZero"], named := ["lapwing/frame.responsesAlone", "lapwing/frame.commandsAlone", "lapwing/ctrl.firstOctets", "internal/bytealg.MaxLen", "unicode/utf8.first", "unicode/utf8.acceptRanges"], apart := false, laid := [("lapwing/ctrl.firstOctets", laid_lapwing_ctrl_firstOctets), ("unicode/utf8.acceptRanges", laid_unicode_utf8_acceptRanges), ("lapwing/frame.commandsAlone", laid_lapwing_frame_commandsAlone), ("lapwing/frame.responsesAlone", laid_lapwing_frame_responsesAlone), ("unicode/utf8.first", laid_unicode_utf8_first)], narrowed := true }
def TopUnitsUptoSaid : Prop := topUnitsUptoRow.holds Tryz.pinned (OpenSpec.upto topUnitsSpec)

/-- 'lapwingtop.TopMeets', WHERE WHAT IT READS IS OF BULK AT MOST 1048576: true; the input reads as it did. -/
def topMeetsUptoRow : OpenClaim := { program := "ytidemohpngkedacgreatdoor", sum := "b03c72fbaceeb646486612d9a2a28f64d9a54fcdc9f797930c51de40fb9b4793", func := "lapwing/lapwingtop.TopMeets", spec := "topMeets", inPlace := ["internal/bytealg.CountString", "internal/bytealg.IndexByteString", "internal/bytealg.IndexString", "internal/abi.NoEscape", "internal/bytealg.MakeNoZero"], unfollowed := true, recurses := true, named := ["lapwing/frame.responsesAlone", "lapwing/frame.commandsAlone", "lapwing/ctrl.firstOctets", "internal/bytealg.MaxLen", "unicode/utf8.first", "unicode/utf8.acceptRanges"], apart := false, laid := [("lapwing/ctrl.firstOctets", laid_lapwing_ctrl_firstOctets), ("unicode/utf8.acceptRanges", laid_unicode_utf8_acceptRanges), ("lapwing/frame.commandsAlone", laid_lapwing_frame_commandsAlone), ("lapwing/frame.responsesAlone", laid_lapwing_frame_responsesAlone), ("unicode/utf8.first", laid_unicode_utf8_first)], narrowed := true }
def TopMeetsUptoSaid : Prop := topMeetsUptoRow.holds Tryz.pinned (OpenSpec.upto topMeetsSpec)

end Rows
end Go.Proofs.YtidemohpngkedacGreatDoor
