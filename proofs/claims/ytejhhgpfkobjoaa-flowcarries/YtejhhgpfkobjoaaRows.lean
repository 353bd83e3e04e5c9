/-
  No cell of these rows narrows 'for every input' (looked for: loops, veiled, ifaces, maps, wideKeys, modest, calm, conditions, laid).
  DERIVED. THE GIVEN ROWS OF THIS SEAT. 6 by the template 'for every input the law returns true; each argument reads behind the call as it read before'; 0 by the template 'total and deterministic' (their statements: YtejhhgpfkobjoaaTotals.lean).
  GIVEN WITH THE SEED: the statements are not yours to turn. If you find one false, say at which input.
  Laid BY PROGRAM, IN A SANDBOX (cutbox-rows.mjs): the forced cells as the released guide's own fill.sh prints them over the translation e98b9549b3c5516b… (all of the seat's roots in one cut). By AI agents, Wed Nov 11 2026. No macro, syntax, notation, axiom, sorry.
-/
import Derived.Test.YtejhhgpfkobjoaaChecked
import GoSem.Claim
import GoSem.ClaimJoined
import GoSem.ClaimMapViews
import Derived.JoinedTies
import Derived.KernelRfl
namespace Go.Proofs.Ytejhhgpfkobjoaa
/- THE CELL 'sum', in the pinned program and in every row, IS THE sha256 OF THE DUMP (.gsa) THAT YtejhhgpfkobjoaaProg.lean LOADS. Nothing in Lean hashes anything: it is a label: what it is worth is what the hold of that sum in a sandbox is worth. -/
noncomputable def Try.pinned : Pinned := { name := "ytejhhgpfkobjoaa", sum := "e98b9549b3c5516b562d0930764918e0ee9526789f6ef93982a29bcdd3f26977", checked := Try.checked }
namespace Rows
def none {H : Type} : Left H := { results := [], args := [] }

/-- 'lapwinglaw13.FlowPlays': WHATEVER THE INPUT: true; the input reads as it did. -/
def flowPlaysSpec : ChangeSpec := { name := "flowPlays", fn := fun _ => fun
  | [d1, d2, d3] => { results := [.lit (.bool true)], args := [d1, d2, d3] }
  | _ => none }
def flowPlaysRow : OpenClaim := { program := "ytejhhgpfkobjoaa", sum := "e98b9549b3c5516b562d0930764918e0ee9526789f6ef93982a29bcdd3f26977", func := "lapwing/lapwinglaw13.FlowPlays", spec := "flowPlays", apart := false }
def FlowPlaysSaid : Prop := flowPlaysRow.holds Try.pinned (OpenSpec.ofChange flowPlaysSpec)

/-- ITS FALSE NEIGHBOUR: 'it returns false'. Refute it at one input. -/
def flowPlaysWrong : ChangeSpec := { name := "flowPlays", fn := fun _ => fun
  | [d1, d2, d3] => { results := [.lit (.bool false)], args := [d1, d2, d3] }
  | _ => none }
def FlowPlaysWrongFalsely : Prop := flowPlaysRow.holds Try.pinned (OpenSpec.ofChange flowPlaysWrong)

/-- 'lapwinglaw13.FlowWindow': WHATEVER THE INPUT: true; the input reads as it did. -/
def flowWindowSpec : ChangeSpec := { name := "flowWindow", fn := fun _ => fun
  | [d1, d2] => { results := [.lit (.bool true)], args := [d1, d2] }
  | _ => none }
def flowWindowRow : OpenClaim := { program := "ytejhhgpfkobjoaa", sum := "e98b9549b3c5516b562d0930764918e0ee9526789f6ef93982a29bcdd3f26977", func := "lapwing/lapwinglaw13.FlowWindow", spec := "flowWindow", apart := false }
def FlowWindowSaid : Prop := flowWindowRow.holds Try.pinned (OpenSpec.ofChange flowWindowSpec)

/-- ITS FALSE NEIGHBOUR: 'it returns false'. Refute it at one input. -/
def flowWindowWrong : ChangeSpec := { name := "flowWindow", fn := fun _ => fun
  | [d1, d2] => { results := [.lit (.bool false)], args := [d1, d2] }
  | _ => none }
def FlowWindowWrongFalsely : Prop := flowWindowRow.holds Try.pinned (OpenSpec.ofChange flowWindowWrong)

/-- 'lapwinglaw13.FlowCarries': WHATEVER THE INPUT: true; the input reads as it did. -/
def flowCarriesSpec : ChangeSpec := { name := "flowCarries", fn := fun _ => fun
  | [d1, d2, d3] => { results := [.lit (.bool true)], args := [d1, d2, d3] }
  | _ => none }
def flowCarriesRow : OpenClaim := { program := "ytejhhgpfkobjoaa", sum := "e98b9549b3c5516b562d0930764918e0ee9526789f6ef93982a29bcdd3f26977", func := "lapwing/lapwinglaw13.FlowCarries", spec := "flowCarries", unfollowed := true, recurses := true, apart := false }
def FlowCarriesSaid : Prop := flowCarriesRow.holds Try.pinned (OpenSpec.ofChange flowCarriesSpec)

/-- ITS FALSE NEIGHBOUR: 'it returns false'. Refute it at one input. -/
def flowCarriesWrong : ChangeSpec := { name := "flowCarries", fn := fun _ => fun
  | [d1, d2, d3] => { results := [.lit (.bool false)], args := [d1, d2, d3] }
  | _ => none }
def FlowCarriesWrongFalsely : Prop := flowCarriesRow.holds Try.pinned (OpenSpec.ofChange flowCarriesWrong)

/-- 'lapwinglaw13.FlowNil': WHATEVER THE INPUT: true; the input reads as it did. -/
def flowNilSpec : ChangeSpec := { name := "flowNil", fn := fun _ => fun
  | [d] => { results := [.lit (.bool true)], args := [d] }
  | _ => none }
def flowNilRow : OpenClaim := { program := "ytejhhgpfkobjoaa", sum := "e98b9549b3c5516b562d0930764918e0ee9526789f6ef93982a29bcdd3f26977", func := "lapwing/lapwinglaw13.FlowNil", spec := "flowNil", apart := false }
def FlowNilSaid : Prop := flowNilRow.holds Try.pinned (OpenSpec.ofChange flowNilSpec)

/-- ITS FALSE NEIGHBOUR: 'it returns false'. Refute it at one input. -/
def flowNilWrong : ChangeSpec := { name := "flowNil", fn := fun _ => fun
  | [d] => { results := [.lit (.bool false)], args := [d] }
  | _ => none }
def FlowNilWrongFalsely : Prop := flowNilRow.holds Try.pinned (OpenSpec.ofChange flowNilWrong)

/-- 'lapwinglaw13.FlowRefuses': WHATEVER THE INPUT: true; the input reads as it did. -/
def flowRefusesSpec : ChangeSpec := { name := "flowRefuses", fn := fun _ => fun
  | [d1, d2, d3] => { results := [.lit (.bool true)], args := [d1, d2, d3] }
  | _ => none }
def flowRefusesRow : OpenClaim := { program := "ytejhhgpfkobjoaa", sum := "e98b9549b3c5516b562d0930764918e0ee9526789f6ef93982a29bcdd3f26977", func := "lapwing/lapwinglaw13.FlowRefuses", spec := "flowRefuses", apart := false }
def FlowRefusesSaid : Prop := flowRefusesRow.holds Try.pinned (OpenSpec.ofChange flowRefusesSpec)

/-- ITS FALSE NEIGHBOUR: 'it returns false'. Refute it at one input. -/
def flowRefusesWrong : ChangeSpec := { name := "flowRefuses", fn := fun _ => fun
  | [d1, d2, d3] => { results := [.lit (.bool false)], args := [d1, d2, d3] }
  | _ => none }
def FlowRefusesWrongFalsely : Prop := flowRefusesRow.holds Try.pinned (OpenSpec.ofChange flowRefusesWrong)

/-- 'lapwinglaw13.FlowStops': WHATEVER THE INPUT: true; the input reads as it did. -/
def flowStopsSpec : ChangeSpec := { name := "flowStops", fn := fun _ => fun
  | [d1, d2, d3] => { results := [.lit (.bool true)], args := [d1, d2, d3] }
  | _ => none }
def flowStopsRow : OpenClaim := { program := "ytejhhgpfkobjoaa", sum := "e98b9549b3c5516b562d0930764918e0ee9526789f6ef93982a29bcdd3f26977", func := "lapwing/lapwinglaw13.FlowStops", spec := "flowStops", apart := false }
def FlowStopsSaid : Prop := flowStopsRow.holds Try.pinned (OpenSpec.ofChange flowStopsSpec)

/-- ITS FALSE NEIGHBOUR: 'it returns false'. Refute it at one input. -/
def flowStopsWrong : ChangeSpec := { name := "flowStops", fn := fun _ => fun
  | [d1, d2, d3] => { results := [.lit (.bool false)], args := [d1, d2, d3] }
  | _ => none }
def FlowStopsWrongFalsely : Prop := flowStopsRow.holds Try.pinned (OpenSpec.ofChange flowStopsWrong)

/- THE SECOND FORM. 'bulk': how many values and letters a reading holds, each counted each time it is reached (what is shared counts as often as it is met; a slice's spare places count too). A statement '..UptoSaid' is the law's where the arguments, and the package variables that the reading takes, are together of bulk at most 1048576: NARROWER than '..Said'. Prove '..Said' where nothing that the law and all that it calls make is longer than what came in: it says more and counts as full. Else prove '..UptoSaid'. A law counts once. -/
mutual
def uptoBulk {H : Type} : DataW H → Nat
  | .lit (.string bytes) => bytes.length + 1
  | .lit _ => 1
  | .nil => 1
  | .ptr d => uptoBulk d + 1
  | .slice elems spare => uptoBulkAll elems + uptoBulkAll spare + 1
  | .agg parts => uptoBulkAll parts + 1
  | .iface _ d => uptoBulk d + 1
  | .map entries => uptoBulkEntries entries + 1
  | .held _ => 1
def uptoBulkAll {H : Type} : List (DataW H) → Nat
  | [] => 0
  | d :: r => uptoBulk d + uptoBulkAll r
def uptoBulkEntries {H : Type} : List (Lit × DataW H) → Nat
  | [] => 0
  | x :: r => uptoBulkEntry x + uptoBulkEntries r
def uptoBulkEntry {H : Type} : Lit × DataW H → Nat
  | (.string bytes, d) => bytes.length + uptoBulk d + 1
  | (_, d) => uptoBulk d + 1
 end
def uptoSmall : (H : Type) → List (DataW H) → Bool := fun _ ds => decide (uptoBulkAll ds ≤ 1048576)
def OpenSpec.upto (s : _root_.Go.ChangeSpec) : _root_.Go.OpenSpec := { _root_.Go.OpenSpec.ofChange s with cond := some uptoSmall }

/-- 'lapwinglaw13.FlowPlays', WHERE WHAT IT READS IS OF BULK AT MOST 1048576: true; the input reads as it did. -/
def flowPlaysUptoRow : OpenClaim := { program := "ytejhhgpfkobjoaa", sum := "e98b9549b3c5516b562d0930764918e0ee9526789f6ef93982a29bcdd3f26977", func := "lapwing/lapwinglaw13.FlowPlays", spec := "flowPlays", apart := false, narrowed := true }
def FlowPlaysUptoSaid : Prop := flowPlaysUptoRow.holds Try.pinned (OpenSpec.upto flowPlaysSpec)

/-- 'lapwinglaw13.FlowWindow', WHERE WHAT IT READS IS OF BULK AT MOST 1048576: true; the input reads as it did. -/
def flowWindowUptoRow : OpenClaim := { program := "ytejhhgpfkobjoaa", sum := "e98b9549b3c5516b562d0930764918e0ee9526789f6ef93982a29bcdd3f26977", func := "lapwing/lapwinglaw13.FlowWindow", spec := "flowWindow", apart := false, narrowed := true }
def FlowWindowUptoSaid : Prop := flowWindowUptoRow.holds Try.pinned (OpenSpec.upto flowWindowSpec)

/-- 'lapwinglaw13.FlowCarries', WHERE WHAT IT READS IS OF BULK AT MOST 1048576: true; the input reads as it did. -/
def flowCarriesUptoRow : OpenClaim := { program := "ytejhhgpfkobjoaa", sum := "e98b9549b3c5516b562d0930764918e0ee9526789f6ef93982a29bcdd3f26977", func := "lapwing/lapwinglaw13.FlowCarries", spec := "flowCarries", unfollowed := true, recurses := true, apart := false, narrowed := true }
def FlowCarriesUptoSaid : Prop := flowCarriesUptoRow.holds Try.pinned (OpenSpec.upto flowCarriesSpec)

/-- 'lapwinglaw13.FlowNil', WHERE WHAT IT READS IS OF BULK AT MOST 1048576: true; the input reads as it did. -/
def flowNilUptoRow : OpenClaim := { program := "ytejhhgpfkobjoaa", sum := "e98b9549b3c5516b562d0930764918e0ee9526789f6ef93982a29bcdd3f26977", func := "lapwing/lapwinglaw13.FlowNil", spec := "flowNil", apart := false, narrowed := true }
def FlowNilUptoSaid : Prop := flowNilUptoRow.holds Try.pinned (OpenSpec.upto flowNilSpec)

/-- 'lapwinglaw13.FlowRefuses', WHERE WHAT IT READS IS OF BULK AT MOST 1048576: true; the input reads as it did. -/
def flowRefusesUptoRow : OpenClaim := { program := "ytejhhgpfkobjoaa", sum := "e98b9549b3c5516b562d0930764918e0ee9526789f6ef93982a29bcdd3f26977", func := "lapwing/lapwinglaw13.FlowRefuses", spec := "flowRefuses", apart := false, narrowed := true }
def FlowRefusesUptoSaid : Prop := flowRefusesUptoRow.holds Try.pinned (OpenSpec.upto flowRefusesSpec)

/-- 'lapwinglaw13.FlowStops', WHERE WHAT IT READS IS OF BULK AT MOST 1048576: true; the input reads as it did. -/
def flowStopsUptoRow : OpenClaim := { program := "ytejhhgpfkobjoaa", sum := "e98b9549b3c5516b562d0930764918e0ee9526789f6ef93982a29bcdd3f26977", func := "lapwing/lapwinglaw13.FlowStops", spec := "flowStops", apart := false, narrowed := true }
def FlowStopsUptoSaid : Prop := flowStopsUptoRow.holds Try.pinned (OpenSpec.upto flowStopsSpec)

end Rows
end Go.Proofs.Ytejhhgpfkobjoaa
