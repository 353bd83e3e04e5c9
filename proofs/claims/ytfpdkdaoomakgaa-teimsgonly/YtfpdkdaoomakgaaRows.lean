/-
  No cell of these rows narrows 'for every input' (looked for: loops, veiled, ifaces, maps, wideKeys, modest, calm, conditions, laid).
  DERIVED. THE GIVEN ROWS OF THIS SEAT. 5 by the template 'for every input the law returns true; each argument reads behind the call as it read before'; 0 by the template 'total and deterministic' (their statements: YtfpdkdaoomakgaaTotals.lean).
  GIVEN WITH THE SEED: the statements are not yours to turn. If you find one false, say at which input.
  Laid BY PROGRAM, IN A SANDBOX (cutbox-rows.mjs): the forced cells as the released guide's own fill.sh prints them over the translation a6577d24ef0308e9… (all of the seat's roots in one cut). By AI agents, Wed Nov 11 2026. No macro, syntax, notation, axiom, sorry.
-/
import Derived.Test.YtfpdkdaoomakgaaChecked
import GoSem.Claim
import GoSem.ClaimJoined
import GoSem.ClaimMapViews
import Derived.JoinedTies
import Derived.KernelRfl
namespace Go.Proofs.Ytfpdkdaoomakgaa
/- THE CELL 'sum', in the pinned program and in every row, IS THE sha256 OF THE DUMP (.gsa) THAT YtfpdkdaoomakgaaProg.lean LOADS. Nothing in Lean hashes anything: it is a label: what it is worth is what the hold of that sum in a sandbox is worth. -/
noncomputable def Try.pinned : Pinned := { name := "ytfpdkdaoomakgaa", sum := "a6577d24ef0308e918effb7c8aa20c6a4a58fb6b31f5194ac1116c1cdb2f46a7", checked := Try.checked }
namespace Rows
def none {H : Type} : Left H := { results := [], args := [] }

/-- 'lapwinglaw07.TeimsgPuts': WHATEVER THE INPUT: true; the input reads as it did. -/
def teimsgPutsSpec : ChangeSpec := { name := "teimsgPuts", fn := fun _ => fun
  | [d] => { results := [.lit (.bool true)], args := [d] }
  | _ => none }
def teimsgPutsRow : OpenClaim := { program := "ytfpdkdaoomakgaa", sum := "a6577d24ef0308e918effb7c8aa20c6a4a58fb6b31f5194ac1116c1cdb2f46a7", func := "lapwing/lapwinglaw07.TeimsgPuts", spec := "teimsgPuts", apart := false }
def TeimsgPutsSaid : Prop := teimsgPutsRow.holds Try.pinned (OpenSpec.ofChange teimsgPutsSpec)

/-- ITS FALSE NEIGHBOUR: 'it returns false'. Refute it at one input. -/
def teimsgPutsWrong : ChangeSpec := { name := "teimsgPuts", fn := fun _ => fun
  | [d] => { results := [.lit (.bool false)], args := [d] }
  | _ => none }
def TeimsgPutsWrongFalsely : Prop := teimsgPutsRow.holds Try.pinned (OpenSpec.ofChange teimsgPutsWrong)

/-- 'lapwinglaw07.TeimsgGets': WHATEVER THE INPUT: true; the input reads as it did. -/
def teimsgGetsSpec : ChangeSpec := { name := "teimsgGets", fn := fun _ => fun
  | [d] => { results := [.lit (.bool true)], args := [d] }
  | _ => none }
def teimsgGetsRow : OpenClaim := { program := "ytfpdkdaoomakgaa", sum := "a6577d24ef0308e918effb7c8aa20c6a4a58fb6b31f5194ac1116c1cdb2f46a7", func := "lapwing/lapwinglaw07.TeimsgGets", spec := "teimsgGets", apart := false }
def TeimsgGetsSaid : Prop := teimsgGetsRow.holds Try.pinned (OpenSpec.ofChange teimsgGetsSpec)

/-- ITS FALSE NEIGHBOUR: 'it returns false'. Refute it at one input. -/
def teimsgGetsWrong : ChangeSpec := { name := "teimsgGets", fn := fun _ => fun
  | [d] => { results := [.lit (.bool false)], args := [d] }
  | _ => none }
def TeimsgGetsWrongFalsely : Prop := teimsgGetsRow.holds Try.pinned (OpenSpec.ofChange teimsgGetsWrong)

/-- 'lapwinglaw07.TeimsgOf': WHATEVER THE INPUT: true; the input reads as it did. -/
def teimsgOfSpec : ChangeSpec := { name := "teimsgOf", fn := fun _ => fun
  | [d1, d2] => { results := [.lit (.bool true)], args := [d1, d2] }
  | _ => none }
def teimsgOfRow : OpenClaim := { program := "ytfpdkdaoomakgaa", sum := "a6577d24ef0308e918effb7c8aa20c6a4a58fb6b31f5194ac1116c1cdb2f46a7", func := "lapwing/lapwinglaw07.TeimsgOf", spec := "teimsgOf", apart := false }
def TeimsgOfSaid : Prop := teimsgOfRow.holds Try.pinned (OpenSpec.ofChange teimsgOfSpec)

/-- ITS FALSE NEIGHBOUR: 'it returns false'. Refute it at one input. -/
def teimsgOfWrong : ChangeSpec := { name := "teimsgOf", fn := fun _ => fun
  | [d1, d2] => { results := [.lit (.bool false)], args := [d1, d2] }
  | _ => none }
def TeimsgOfWrongFalsely : Prop := teimsgOfRow.holds Try.pinned (OpenSpec.ofChange teimsgOfWrong)

/-- 'lapwinglaw07.TeimsgAll': WHATEVER THE INPUT: true; the input reads as it did. -/
def teimsgAllSpec : ChangeSpec := { name := "teimsgAll", fn := fun _ => fun
  | [d1, d2] => { results := [.lit (.bool true)], args := [d1, d2] }
  | _ => none }
def teimsgAllRow : OpenClaim := { program := "ytfpdkdaoomakgaa", sum := "a6577d24ef0308e918effb7c8aa20c6a4a58fb6b31f5194ac1116c1cdb2f46a7", func := "lapwing/lapwinglaw07.TeimsgAll", spec := "teimsgAll", apart := false }
def TeimsgAllSaid : Prop := teimsgAllRow.holds Try.pinned (OpenSpec.ofChange teimsgAllSpec)

/-- ITS FALSE NEIGHBOUR: 'it returns false'. Refute it at one input. -/
def teimsgAllWrong : ChangeSpec := { name := "teimsgAll", fn := fun _ => fun
  | [d1, d2] => { results := [.lit (.bool false)], args := [d1, d2] }
  | _ => none }
def TeimsgAllWrongFalsely : Prop := teimsgAllRow.holds Try.pinned (OpenSpec.ofChange teimsgAllWrong)

/-- 'lapwinglaw07.TeimsgOnly': WHATEVER THE INPUT: true; the input reads as it did. -/
def teimsgOnlySpec : ChangeSpec := { name := "teimsgOnly", fn := fun _ => fun
  | [d1, d2] => { results := [.lit (.bool true)], args := [d1, d2] }
  | _ => none }
def teimsgOnlyRow : OpenClaim := { program := "ytfpdkdaoomakgaa", sum := "a6577d24ef0308e918effb7c8aa20c6a4a58fb6b31f5194ac1116c1cdb2f46a7", func := "lapwing/lapwinglaw07.TeimsgOnly", spec := "teimsgOnly", apart := false }
def TeimsgOnlySaid : Prop := teimsgOnlyRow.holds Try.pinned (OpenSpec.ofChange teimsgOnlySpec)

/-- ITS FALSE NEIGHBOUR: 'it returns false'. Refute it at one input. -/
def teimsgOnlyWrong : ChangeSpec := { name := "teimsgOnly", fn := fun _ => fun
  | [d1, d2] => { results := [.lit (.bool false)], args := [d1, d2] }
  | _ => none }
def TeimsgOnlyWrongFalsely : Prop := teimsgOnlyRow.holds Try.pinned (OpenSpec.ofChange teimsgOnlyWrong)

/- THE SECOND FORM. 'bulk': how many values and letters a reading holds, each counted each time it is reached (what is shared counts as often as it is met; a slice's spare places count too). A statement '..UptoSaid' is the law's where the arguments, and the package variables that the reading takes, are together of bulk at most 1048576: NARROWER than '..Said'. Prove '..Said' where nothing that the law and all that it calls make is longer than what came in: it says more and counts as full. Else prove '..UptoSaid'. A law counts once. -/
mutual
def uptoBulk {H : Type} : DataW H → Nat
  | .lit (.string bytes) => bytes.length + 1
  | .lit _ => 1
  | .nil => 1
  | .ptr d => uptoBulk d + 1
  | .slice elems spare => uptoBulkAll elems + uptoBulkAll spare + 1
  | .agg parts => uptoBulkAll parts + 1
  | .iface _ d => uptoBulk d + 1
  | .map entries => uptoBulkEntries entries + 1
  | .held _ => 1
def uptoBulkAll {H : Type} : List (DataW H) → Nat
  | [] => 0
  | d :: r => uptoBulk d + uptoBulkAll r
def uptoBulkEntries {H : Type} : List (Lit × DataW H) → Nat
  | [] => 0
  | x :: r => uptoBulkEntry x + uptoBulkEntries r
def uptoBulkEntry {H : Type} : Lit × DataW H → Nat
  | (.string bytes, d) => bytes.length + uptoBulk d + 1
  | (_, d) => uptoBulk d + 1
 end
def uptoSmall : (H : Type) → List (DataW H) → Bool := fun _ ds => decide (uptoBulkAll ds ≤ 1048576)
def OpenSpec.upto (s : _root_.Go.ChangeSpec) : _root_.Go.OpenSpec := { _root_.Go.OpenSpec.ofChange s with cond := some uptoSmall }

/-- 'lapwinglaw07.TeimsgPuts', WHERE WHAT IT READS IS OF BULK AT MOST 1048576: true; the input reads as it did. -/
def teimsgPutsUptoRow : OpenClaim := { program := "ytfpdkdaoomakgaa", sum := "a6577d24ef0308e918effb7c8aa20c6a4a58fb6b31f5194ac1116c1cdb2f46a7", func := "lapwing/lapwinglaw07.TeimsgPuts", spec := "teimsgPuts", apart := false, narrowed := true }
def TeimsgPutsUptoSaid : Prop := teimsgPutsUptoRow.holds Try.pinned (OpenSpec.upto teimsgPutsSpec)

/-- 'lapwinglaw07.TeimsgGets', WHERE WHAT IT READS IS OF BULK AT MOST 1048576: true; the input reads as it did. -/
def teimsgGetsUptoRow : OpenClaim := { program := "ytfpdkdaoomakgaa", sum := "a6577d24ef0308e918effb7c8aa20c6a4a58fb6b31f5194ac1116c1cdb2f46a7", func := "lapwing/lapwinglaw07.TeimsgGets", spec := "teimsgGets", apart := false, narrowed := true }
def TeimsgGetsUptoSaid : Prop := teimsgGetsUptoRow.holds Try.pinned (OpenSpec.upto teimsgGetsSpec)

/-- 'lapwinglaw07.TeimsgOf', WHERE WHAT IT READS IS OF BULK AT MOST 1048576: true; the input reads as it did. -/
def teimsgOfUptoRow : OpenClaim := { program := "ytfpdkdaoomakgaa", sum := "a6577d24ef0308e918effb7c8aa20c6a4a58fb6b31f5194ac1116c1cdb2f46a7", func := "lapwing/lapwinglaw07.TeimsgOf", spec := "teimsgOf", apart := false, narrowed := true }
def TeimsgOfUptoSaid : Prop := teimsgOfUptoRow.holds Try.pinned (OpenSpec.upto teimsgOfSpec)

/-- 'lapwinglaw07.TeimsgAll', WHERE WHAT IT READS IS OF BULK AT MOST 1048576: true; the input reads as it did. -/
def teimsgAllUptoRow : OpenClaim := { program := "ytfpdkdaoomakgaa", sum := "a6577d24ef0308e918effb7c8aa20c6a4a58fb6b31f5194ac1116c1cdb2f46a7", func := "lapwing/lapwinglaw07.TeimsgAll", spec := "teimsgAll", apart := false, narrowed := true }
def TeimsgAllUptoSaid : Prop := teimsgAllUptoRow.holds Try.pinned (OpenSpec.upto teimsgAllSpec)

/-- 'lapwinglaw07.TeimsgOnly', WHERE WHAT IT READS IS OF BULK AT MOST 1048576: true; the input reads as it did. -/
def teimsgOnlyUptoRow : OpenClaim := { program := "ytfpdkdaoomakgaa", sum := "a6577d24ef0308e918effb7c8aa20c6a4a58fb6b31f5194ac1116c1cdb2f46a7", func := "lapwing/lapwinglaw07.TeimsgOnly", spec := "teimsgOnly", apart := false, narrowed := true }
def TeimsgOnlyUptoSaid : Prop := teimsgOnlyUptoRow.holds Try.pinned (OpenSpec.upto teimsgOnlySpec)

end Rows
end Go.Proofs.Ytfpdkdaoomakgaa
