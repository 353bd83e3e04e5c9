/-
  NARROWER THAN 'FOR EVERY INPUT', by the rows' own cells (each row's printed sentence says how): FrameKinds: laid · FrameBefore: laid · TopLine: laid.
  DERIVED. THE GIVEN ROWS OF THIS SEAT. 3 by the template 'for every input the law returns true; each argument reads behind the call as it read before'; 0 by the template 'total and deterministic' (their statements: YtdcohbdndkphnabDoorTotals.lean).
  GIVEN WITH THE SEED: the statements are not yours to turn. If you find one false, say at which input.
  Laid BY PROGRAM, IN A SANDBOX (cutbox-rows.mjs): the forced cells as the released guide's own fill.sh prints them over the translation 41b0e9925f801249… (all of the seat's roots in one cut). By AI agents, Wed Nov 11 2026. No macro, syntax, notation, axiom, sorry.
-/
import Derived.Test.YtdcohbdndkphnabDoorChecked
import GoSem.PinnedTables
import GoSem.Claim
import GoSem.ClaimJoined
import GoSem.ClaimMapViews
import Derived.JoinedTies
import Derived.KernelRfl
namespace Go.Proofs.YtdcohbdndkphnabDoor
/- THE CELL 'sum', in the pinned program and in every row, IS THE sha256 OF THE DUMP (.gsa) THAT YtdcohbdndkphnabDoorProg.lean LOADS. Nothing in Lean hashes anything: it is a label: what it is worth is what the hold of that sum in a sandbox is worth. -/
noncomputable def Tryd.pinned : Pinned := { name := "ytdcohbdndkphnabdoor", sum := "41b0e9925f801249295c8c790f0a092cde55541c01d18ca60d588bff706933ad", checked := Tryd.checked }
namespace Rows
def none {H : Type} : Left H := { results := [], args := [] }

/- WHAT THE LISTED PACKAGE-LEVEL VARIABLES READ AS WHEN THE CALL BEGINS. Each datum BY PROGRAM (the guide's laid-datum.mjs) off the statement by which the dump's own 'gosem.cut.vars' lays the variable. In a bare row this is a premise. The card (YtdcohbdndkphnabDoorCards.lean) ties it to the program's text. -/
def laid_lapwing_ctrl_firstOctets {H : Type} : DataW H := .agg [.lit (.int .u8 0), .lit (.int .u8 1), .lit (.int .u8 5), .lit (.int .u8 9), .lit (.int .u8 111), .lit (.int .u8 15), .lit (.int .u8 3), .lit (.int .u8 67), .lit (.int .u8 99), .lit (.int .u8 135)]
def laid_lapwing_frame_commandsAlone {H : Type} : DataW H := .agg [.lit (.bool true), .lit (.bool false), .lit (.bool false), .lit (.bool false), .lit (.bool true), .lit (.bool false), .lit (.bool true), .lit (.bool true), .lit (.bool false), .lit (.bool false)]
def laid_lapwing_frame_responsesAlone {H : Type} : DataW H := .agg [.lit (.bool false), .lit (.bool false), .lit (.bool false), .lit (.bool false), .lit (.bool false), .lit (.bool true), .lit (.bool false), .lit (.bool false), .lit (.bool true), .lit (.bool true)]
def laid_unicode_utf8_acceptRanges {H : Type} : DataW H := .agg [.agg [.lit (.int .u8 128), .lit (.int .u8 191)], .agg [.lit (.int .u8 160), .lit (.int .u8 191)], .agg [.lit (.int .u8 128), .lit (.int .u8 159)], .agg [.lit (.int .u8 144), .lit (.int .u8 191)], .agg [.lit (.int .u8 128), .lit (.int .u8 143)], .agg [.lit (.int .u8 0), .lit (.int .u8 0)], .agg [.lit (.int .u8 0), .lit (.int .u8 0)], .agg [.lit (.int .u8 0), .lit (.int .u8 0)], .agg [.lit (.int .u8 0), .lit (.int .u8 0)], .agg [.lit (.int .u8 0), .lit (.int .u8 0)], .agg [.lit (.int .u8 0), .lit (.int .u8 0)], .agg [.lit (.int .u8 0), .lit (.int .u8 0)], .agg [.lit (.int .u8 0), .lit (.int .u8 0)], .agg [.lit (.int .u8 0), .lit (.int .u8 0)], .agg [.lit (.int .u8 0), .lit (.int .u8 0)], .agg [.lit (.int .u8 0), .lit (.int .u8 0)]]
/-- One of Go's own tables, pinned by name: the form's constant. -/
def laid_unicode_utf8_first : DataW Unit := Go.Pinned.utf8First

/-- 'lapwinglaw06.FrameKinds': WHATEVER THE INPUT: true; the input reads as it did. -/
def frameKindsSpec : ChangeSpec := { name := "frameKinds", fn := fun _ => fun
  | [d1, d2] => { results := [.lit (.bool true)], args := [d1, d2] }
  | _ => none }
def frameKindsRow : OpenClaim := { program := "ytdcohbdndkphnabdoor", sum := "41b0e9925f801249295c8c790f0a092cde55541c01d18ca60d588bff706933ad", func := "lapwing/lapwinglaw06.FrameKinds", spec := "frameKinds", named := ["lapwing/frame.responsesAlone", "lapwing/frame.commandsAlone", "lapwing/ctrl.firstOctets"], apart := false, laid := [("lapwing/ctrl.firstOctets", laid_lapwing_ctrl_firstOctets), ("lapwing/frame.commandsAlone", laid_lapwing_frame_commandsAlone), ("lapwing/frame.responsesAlone", laid_lapwing_frame_responsesAlone)] }
def FrameKindsSaid : Prop := frameKindsRow.holds Tryd.pinned (OpenSpec.ofChange frameKindsSpec)

/-- ITS FALSE NEIGHBOUR: 'it returns false'. Refute it at one input. -/
def frameKindsWrong : ChangeSpec := { name := "frameKinds", fn := fun _ => fun
  | [d1, d2] => { results := [.lit (.bool false)], args := [d1, d2] }
  | _ => none }
def FrameKindsWrongFalsely : Prop := frameKindsRow.holds Tryd.pinned (OpenSpec.ofChange frameKindsWrong)

/-- 'lapwinglaw06.FrameBefore': WHATEVER THE INPUT: true; the input reads as it did. -/
def frameBeforeSpec : ChangeSpec := { name := "frameBefore", fn := fun _ => fun
  | [d1, d2, d3] => { results := [.lit (.bool true)], args := [d1, d2, d3] }
  | _ => none }
def frameBeforeRow : OpenClaim := { program := "ytdcohbdndkphnabdoor", sum := "41b0e9925f801249295c8c790f0a092cde55541c01d18ca60d588bff706933ad", func := "lapwing/lapwinglaw06.FrameBefore", spec := "frameBefore", named := ["lapwing/ctrl.firstOctets", "lapwing/frame.responsesAlone", "lapwing/frame.commandsAlone"], apart := false, laid := [("lapwing/ctrl.firstOctets", laid_lapwing_ctrl_firstOctets), ("lapwing/frame.commandsAlone", laid_lapwing_frame_commandsAlone), ("lapwing/frame.responsesAlone", laid_lapwing_frame_responsesAlone)] }
def FrameBeforeSaid : Prop := frameBeforeRow.holds Tryd.pinned (OpenSpec.ofChange frameBeforeSpec)

/-- ITS FALSE NEIGHBOUR: 'it returns false'. Refute it at one input. -/
def frameBeforeWrong : ChangeSpec := { name := "frameBefore", fn := fun _ => fun
  | [d1, d2, d3] => { results := [.lit (.bool false)], args := [d1, d2, d3] }
  | _ => none }
def FrameBeforeWrongFalsely : Prop := frameBeforeRow.holds Tryd.pinned (OpenSpec.ofChange frameBeforeWrong)

/-- 'lapwingtop.TopLine': WHATEVER THE INPUT: true; the input reads as it did. -/
def topLineSpec : ChangeSpec := { name := "topLine", fn := fun _ => fun
  | [d1, d2, d3] => { results := [.lit (.bool true)], args := [d1, d2, d3] }
  | _ => none }
def topLineRow : OpenClaim := { program := "ytdcohbdndkphnabdoor", sum := "41b0e9925f801249295c8c790f0a092cde55541c01d18ca60d588bff706933ad", func := "lapwing/lapwingtop.TopLine", spec := "topLine", inPlace := ["internal/bytealg.CountString", "internal/bytealg.IndexByteString", "internal/bytealg.IndexString", "internal/abi.NoEscape", "internal/bytealg.MakeNoZero"], unfollowed := true, recurses := true, named := ["lapwing/frame.responsesAlone", "lapwing/frame.commandsAlone", "lapwing/ctrl.firstOctets", "internal/bytealg.MaxLen", "unicode/utf8.first", "unicode/utf8.acceptRanges"], apart := false, laid := [("lapwing/ctrl.firstOctets", laid_lapwing_ctrl_firstOctets), ("unicode/utf8.acceptRanges", laid_unicode_utf8_acceptRanges), ("lapwing/frame.commandsAlone", laid_lapwing_frame_commandsAlone), ("lapwing/frame.responsesAlone", laid_lapwing_frame_responsesAlone), ("unicode/utf8.first", laid_unicode_utf8_first)] }
def TopLineSaid : Prop := topLineRow.holds Tryd.pinned (OpenSpec.ofChange topLineSpec)

/-- ITS FALSE NEIGHBOUR: 'it returns false'. Refute it at one input. -/
def topLineWrong : ChangeSpec := { name := "topLine", fn := fun _ => fun
  | [d1, d2, d3] => { results := [.lit (.bool false)], args := [d1, d2, d3] }
  | _ => none }
def TopLineWrongFalsely : Prop := topLineRow.holds Tryd.pinned (OpenSpec.ofChange topLineWrong)

/- THE SECOND FORM. 'bulk': how many values and letters a reading holds, each counted each time it is reached (what is shared counts as often as it is met; a slice's spare places count too). A statement '..UptoSaid' is the law's where the arguments, and the package variables that the reading takes, are together of bulk at most 1048576: NARROWER than '..Said'. Prove '..Said' where nothing that the law and all that it calls make is longer than what came in: it says more and counts as full. Else prove '..UptoSaid'. A law counts once. -/
mutual
def uptoBulk {H : Type} : DataW H → Nat
  | .lit (.string bytes) => bytes.length + 1
  | .lit _ => 1
  | .nil => 1
  | .ptr d => uptoBulk d + 1
  | .slice elems spare => uptoBulkAll elems + uptoBulkAll spare + 1
  | .agg parts => uptoBulkAll parts + 1
  | .iface _ d => uptoBulk d + 1
  | .map entries => uptoBulkEntries entries + 1
  | .held _ => 1
def uptoBulkAll {H : Type} : List (DataW H) → Nat
  | [] => 0
  | d :: r => uptoBulk d + uptoBulkAll r
def uptoBulkEntries {H : Type} : List (Lit × DataW H) → Nat
  | [] => 0
  | x :: r => uptoBulkEntry x + uptoBulkEntries r
def uptoBulkEntry {H : Type} : Lit × DataW H → Nat
  | (.string bytes, d) => bytes.length + uptoBulk d + 1
  | (_, d) => uptoBulk d + 1
 end
def uptoSmall : (H : Type) → List (DataW H) → Bool := fun _ ds => decide (uptoBulkAll ds ≤ 1048576)
def OpenSpec.upto (s : _root_.Go.ChangeSpec) : _root_.Go.OpenSpec := { _root_.Go.OpenSpec.ofChange s with cond := some uptoSmall }

/-- 'lapwinglaw06.FrameKinds', WHERE WHAT IT READS IS OF BULK AT MOST 1048576: true; the input reads as it did. -/
def frameKindsUptoRow : OpenClaim := { program := "ytdcohbdndkphnabdoor", sum := "41b0e9925f801249295c8c790f0a092cde55541c01d18ca60d588bff706933ad", func := "lapwing/lapwinglaw06.FrameKinds", spec := "frameKinds", named := ["lapwing/frame.responsesAlone", "lapwing/frame.commandsAlone", "lapwing/ctrl.firstOctets"], apart := false, laid := [("lapwing/ctrl.firstOctets", laid_lapwing_ctrl_firstOctets), ("lapwing/frame.commandsAlone", laid_lapwing_frame_commandsAlone), ("lapwing/frame.responsesAlone", laid_lapwing_frame_responsesAlone)], narrowed := true }
def FrameKindsUptoSaid : Prop := frameKindsUptoRow.holds Tryd.pinned (OpenSpec.upto frameKindsSpec)

/-- 'lapwinglaw06.FrameBefore', WHERE WHAT IT READS IS OF BULK AT MOST 1048576: true; the input reads as it did. -/
def frameBeforeUptoRow : OpenClaim := { program := "ytdcohbdndkphnabdoor", sum := "41b0e9925f801249295c8c790f0a092cde55541c01d18ca60d588bff706933ad", func := "lapwing/lapwinglaw06.FrameBefore", spec := "frameBefore", named := ["lapwing/ctrl.firstOctets", "lapwing/frame.responsesAlone", "lapwing/frame.commandsAlone"], apart := false, laid := [("lapwing/ctrl.firstOctets", laid_lapwing_ctrl_firstOctets), ("lapwing/frame.commandsAlone", laid_lapwing_frame_commandsAlone), ("lapwing/frame.responsesAlone", laid_lapwing_frame_responsesAlone)], narrowed := true }
def FrameBeforeUptoSaid : Prop := frameBeforeUptoRow.holds Tryd.pinned (OpenSpec.upto frameBeforeSpec)

/-- 'lapwingtop.TopLine', WHERE WHAT IT READS IS OF BULK AT MOST 1048576: true; the input reads as it did. -/
def topLineUptoRow : OpenClaim := { program := "ytdcohbdndkphnabdoor", sum := "41b0e9925f801249295c8c790f0a092cde55541c01d18ca60d588bff706933ad", func := "lapwing/lapwingtop.TopLine", spec := "topLine", inPlace := ["internal/bytealg.CountString", "internal/bytealg.IndexByteString", "internal/bytealg.IndexString", "internal/abi.NoEscape", "internal/bytealg.MakeNoZero"], unfollowed := true, recurses := true, named := ["lapwing/frame.responsesAlone", "lapwing/frame.commandsAlone", "lapwing/ctrl.firstOctets", "internal/bytealg.MaxLen", "unicode/utf8.first", "unicode/utf8.acceptRanges"], apart := false, laid := [("lapwing/ctrl.firstOctets", laid_lapwing_ctrl_firstOctets), ("unicode/utf8.acceptRanges", laid_unicode_utf8_acceptRanges), ("lapwing/frame.commandsAlone", laid_lapwing_frame_commandsAlone), ("lapwing/frame.responsesAlone", laid_lapwing_frame_responsesAlone), ("unicode/utf8.first", laid_unicode_utf8_first)], narrowed := true }
def TopLineUptoSaid : Prop := topLineUptoRow.holds Tryd.pinned (OpenSpec.upto topLineSpec)

end Rows
end Go.Proofs.YtdcohbdndkphnabDoor
