/-
  No cell of these rows narrows 'for every input' (looked for: loops, veiled, ifaces, maps, wideKeys, modest, calm, conditions, laid).
  DERIVED. THE GIVEN ROWS OF THIS SEAT. 4 by the template 'for every input the law returns true; each argument reads behind the call as it read before'; 0 by the template 'total and deterministic' (their statements: YtdnhcpkpajbhoabTotals.lean).
  GIVEN WITH THE SEED: the statements are not yours to turn. If you find one false, say at which input.
  Laid BY PROGRAM, IN A SANDBOX (cutbox-rows.mjs): the forced cells as the released guide's own fill.sh prints them over the translation 6324f684bb96505c… (all of the seat's roots in one cut). By AI agents, Wed Nov 11 2026. No macro, syntax, notation, axiom, sorry.
-/
import Derived.Test.YtdnhcpkpajbhoabChecked
import GoSem.Claim
import GoSem.ClaimJoined
import GoSem.ClaimMapViews
import Derived.JoinedTies
import Derived.KernelRfl
namespace Go.Proofs.Ytdnhcpkpajbhoab
/- THE CELL 'sum', in the pinned program and in every row, IS THE sha256 OF THE DUMP (.gsa) THAT YtdnhcpkpajbhoabProg.lean LOADS. Nothing in Lean hashes anything: it is a label: what it is worth is what the hold of that sum in a sandbox is worth. -/
noncomputable def Try.pinned : Pinned := { name := "ytdnhcpkpajbhoab", sum := "6324f684bb96505c2763735ffc457d419e5d663ce0cfbe12b5c5a78799e7e898", checked := Try.checked }
namespace Rows
def none {H : Type} : Left H := { results := [], args := [] }

/-- 'lapwinglaw15.SourcePlays': WHATEVER THE INPUT: true; the input reads as it did. -/
def sourcePlaysSpec : ChangeSpec := { name := "sourcePlays", fn := fun _ => fun
  | [d] => { results := [.lit (.bool true)], args := [d] }
  | _ => none }
def sourcePlaysRow : OpenClaim := { program := "ytdnhcpkpajbhoab", sum := "6324f684bb96505c2763735ffc457d419e5d663ce0cfbe12b5c5a78799e7e898", func := "lapwing/lapwinglaw15.SourcePlays", spec := "sourcePlays", unfollowed := true, recurses := true, apart := false }
def SourcePlaysSaid : Prop := sourcePlaysRow.holds Try.pinned (OpenSpec.ofChange sourcePlaysSpec)

/-- ITS FALSE NEIGHBOUR: 'it returns false'. Refute it at one input. -/
def sourcePlaysWrong : ChangeSpec := { name := "sourcePlays", fn := fun _ => fun
  | [d] => { results := [.lit (.bool false)], args := [d] }
  | _ => none }
def SourcePlaysWrongFalsely : Prop := sourcePlaysRow.holds Try.pinned (OpenSpec.ofChange sourcePlaysWrong)

/-- 'lapwinglaw15.SourceGives': WHATEVER THE INPUT: true; the input reads as it did. -/
def sourceGivesSpec : ChangeSpec := { name := "sourceGives", fn := fun _ => fun
  | [d] => { results := [.lit (.bool true)], args := [d] }
  | _ => none }
def sourceGivesRow : OpenClaim := { program := "ytdnhcpkpajbhoab", sum := "6324f684bb96505c2763735ffc457d419e5d663ce0cfbe12b5c5a78799e7e898", func := "lapwing/lapwinglaw15.SourceGives", spec := "sourceGives", unfollowed := true, recurses := true, apart := false }
def SourceGivesSaid : Prop := sourceGivesRow.holds Try.pinned (OpenSpec.ofChange sourceGivesSpec)

/-- ITS FALSE NEIGHBOUR: 'it returns false'. Refute it at one input. -/
def sourceGivesWrong : ChangeSpec := { name := "sourceGives", fn := fun _ => fun
  | [d] => { results := [.lit (.bool false)], args := [d] }
  | _ => none }
def SourceGivesWrongFalsely : Prop := sourceGivesRow.holds Try.pinned (OpenSpec.ofChange sourceGivesWrong)

/-- 'lapwinglaw15.SourceAudits': WHATEVER THE INPUT: true; the input reads as it did. -/
def sourceAuditsSpec : ChangeSpec := { name := "sourceAudits", fn := fun _ => fun
  | [d1, d2] => { results := [.lit (.bool true)], args := [d1, d2] }
  | _ => none }
def sourceAuditsRow : OpenClaim := { program := "ytdnhcpkpajbhoab", sum := "6324f684bb96505c2763735ffc457d419e5d663ce0cfbe12b5c5a78799e7e898", func := "lapwing/lapwinglaw15.SourceAudits", spec := "sourceAudits", unfollowed := true, recurses := true, apart := false }
def SourceAuditsSaid : Prop := sourceAuditsRow.holds Try.pinned (OpenSpec.ofChange sourceAuditsSpec)

/-- ITS FALSE NEIGHBOUR: 'it returns false'. Refute it at one input. -/
def sourceAuditsWrong : ChangeSpec := { name := "sourceAudits", fn := fun _ => fun
  | [d1, d2] => { results := [.lit (.bool false)], args := [d1, d2] }
  | _ => none }
def SourceAuditsWrongFalsely : Prop := sourceAuditsRow.holds Try.pinned (OpenSpec.ofChange sourceAuditsWrong)

/-- 'lapwinglaw15.SourceStrays': WHATEVER THE INPUT: true; the input reads as it did. -/
def sourceStraysSpec : ChangeSpec := { name := "sourceStrays", fn := fun _ => fun
  | [d1, d2, d3] => { results := [.lit (.bool true)], args := [d1, d2, d3] }
  | _ => none }
def sourceStraysRow : OpenClaim := { program := "ytdnhcpkpajbhoab", sum := "6324f684bb96505c2763735ffc457d419e5d663ce0cfbe12b5c5a78799e7e898", func := "lapwing/lapwinglaw15.SourceStrays", spec := "sourceStrays", unfollowed := true, recurses := true, apart := false }
def SourceStraysSaid : Prop := sourceStraysRow.holds Try.pinned (OpenSpec.ofChange sourceStraysSpec)

/-- ITS FALSE NEIGHBOUR: 'it returns false'. Refute it at one input. -/
def sourceStraysWrong : ChangeSpec := { name := "sourceStrays", fn := fun _ => fun
  | [d1, d2, d3] => { results := [.lit (.bool false)], args := [d1, d2, d3] }
  | _ => none }
def SourceStraysWrongFalsely : Prop := sourceStraysRow.holds Try.pinned (OpenSpec.ofChange sourceStraysWrong)

/- THE SECOND FORM. 'bulk': how many values and letters a reading holds, each counted each time it is reached (what is shared counts as often as it is met; a slice's spare places count too). A statement '..UptoSaid' is the law's where the arguments, and the package variables that the reading takes, are together of bulk at most 1048576: NARROWER than '..Said'. Prove '..Said' where nothing that the law and all that it calls make is longer than what came in: it says more and counts as full. Else prove '..UptoSaid'. A law counts once. -/
mutual
def uptoBulk {H : Type} : DataW H → Nat
  | .lit (.string bytes) => bytes.length + 1
  | .lit _ => 1
  | .nil => 1
  | .ptr d => uptoBulk d + 1
  | .slice elems spare => uptoBulkAll elems + uptoBulkAll spare + 1
  | .agg parts => uptoBulkAll parts + 1
  | .iface _ d => uptoBulk d + 1
  | .map entries => uptoBulkEntries entries + 1
  | .held _ => 1
def uptoBulkAll {H : Type} : List (DataW H) → Nat
  | [] => 0
  | d :: r => uptoBulk d + uptoBulkAll r
def uptoBulkEntries {H : Type} : List (Lit × DataW H) → Nat
  | [] => 0
  | x :: r => uptoBulkEntry x + uptoBulkEntries r
def uptoBulkEntry {H : Type} : Lit × DataW H → Nat
  | (.string bytes, d) => bytes.length + uptoBulk d + 1
  | (_, d) => uptoBulk d + 1
 end
def uptoSmall : (H : Type) → List (DataW H) → Bool := fun _ ds => decide (uptoBulkAll ds ≤ 1048576)
def OpenSpec.upto (s : _root_.Go.ChangeSpec) : _root_.Go.OpenSpec := { _root_.Go.OpenSpec.ofChange s with cond := some uptoSmall }

/-- 'lapwinglaw15.SourcePlays', WHERE WHAT IT READS IS OF BULK AT MOST 1048576: true; the input reads as it did. -/
def sourcePlaysUptoRow : OpenClaim := { program := "ytdnhcpkpajbhoab", sum := "6324f684bb96505c2763735ffc457d419e5d663ce0cfbe12b5c5a78799e7e898", func := "lapwing/lapwinglaw15.SourcePlays", spec := "sourcePlays", unfollowed := true, recurses := true, apart := false, narrowed := true }
def SourcePlaysUptoSaid : Prop := sourcePlaysUptoRow.holds Try.pinned (OpenSpec.upto sourcePlaysSpec)

/-- 'lapwinglaw15.SourceGives', WHERE WHAT IT READS IS OF BULK AT MOST 1048576: true; the input reads as it did. -/
def sourceGivesUptoRow : OpenClaim := { program := "ytdnhcpkpajbhoab", sum := "6324f684bb96505c2763735ffc457d419e5d663ce0cfbe12b5c5a78799e7e898", func := "lapwing/lapwinglaw15.SourceGives", spec := "sourceGives", unfollowed := true, recurses := true, apart := false, narrowed := true }
def SourceGivesUptoSaid : Prop := sourceGivesUptoRow.holds Try.pinned (OpenSpec.upto sourceGivesSpec)

/-- 'lapwinglaw15.SourceAudits', WHERE WHAT IT READS IS OF BULK AT MOST 1048576: true; the input reads as it did. -/
def sourceAuditsUptoRow : OpenClaim := { program := "ytdnhcpkpajbhoab", sum := "6324f684bb96505c2763735ffc457d419e5d663ce0cfbe12b5c5a78799e7e898", func := "lapwing/lapwinglaw15.SourceAudits", spec := "sourceAudits", unfollowed := true, recurses := true, apart := false, narrowed := true }
def SourceAuditsUptoSaid : Prop := sourceAuditsUptoRow.holds Try.pinned (OpenSpec.upto sourceAuditsSpec)

/-- 'lapwinglaw15.SourceStrays', WHERE WHAT IT READS IS OF BULK AT MOST 1048576: true; the input reads as it did. -/
def sourceStraysUptoRow : OpenClaim := { program := "ytdnhcpkpajbhoab", sum := "6324f684bb96505c2763735ffc457d419e5d663ce0cfbe12b5c5a78799e7e898", func := "lapwing/lapwinglaw15.SourceStrays", spec := "sourceStrays", unfollowed := true, recurses := true, apart := false, narrowed := true }
def SourceStraysUptoSaid : Prop := sourceStraysUptoRow.holds Try.pinned (OpenSpec.upto sourceStraysSpec)

end Rows
end Go.Proofs.Ytdnhcpkpajbhoab
