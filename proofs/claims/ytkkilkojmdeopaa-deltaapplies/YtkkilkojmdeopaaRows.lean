/-
  No cell of these rows narrows 'for every input' (looked for: loops, veiled, ifaces, maps, wideKeys, modest, calm, conditions, laid).
  DERIVED. THE GIVEN ROWS OF THIS SEAT. 3 by the template 'for every input the law returns true; each argument reads behind the call as it read before'; 0 by the template 'total and deterministic' (their statements: YtkkilkojmdeopaaTotals.lean).
  GIVEN WITH THE SEED: the statements are not yours to turn. If you find one false, say at which input.
  Laid BY PROGRAM, IN A SANDBOX (cutbox-rows.mjs): the forced cells as the released guide's own fill.sh prints them over the translation ae71b4c81f8f342d… (all of the seat's roots in one cut). By AI agents, Wed Nov 11 2026. No macro, syntax, notation, axiom, sorry.
-/
import Derived.Test.YtkkilkojmdeopaaChecked
import GoSem.Claim
import GoSem.ClaimJoined
import GoSem.ClaimMapViews
import Derived.JoinedTies
import Derived.KernelRfl
namespace Go.Proofs.Ytkkilkojmdeopaa
/- THE CELL 'sum', in the pinned program and in every row, IS THE sha256 OF THE DUMP (.gsa) THAT YtkkilkojmdeopaaProg.lean LOADS. Nothing in Lean hashes anything: it is a label: what it is worth is what the hold of that sum in a sandbox is worth. -/
noncomputable def Try.pinned : Pinned := { name := "ytkkilkojmdeopaa", sum := "ae71b4c81f8f342d68b64256f62913e5e32a3aa1e7675331f65502174f3ac825", checked := Try.checked }
namespace Rows
def none {H : Type} : Left H := { results := [], args := [] }

/-- 'graftlaw15.DeltaGaps': WHATEVER THE INPUT: true; the input reads as it did. -/
def deltaGapsSpec : ChangeSpec := { name := "deltaGaps", fn := fun _ => fun
  | [d1, d2] => { results := [.lit (.bool true)], args := [d1, d2] }
  | _ => none }
def deltaGapsRow : OpenClaim := { program := "ytkkilkojmdeopaa", sum := "ae71b4c81f8f342d68b64256f62913e5e32a3aa1e7675331f65502174f3ac825", func := "graft/graftlaw15.DeltaGaps", spec := "deltaGaps", unfollowed := true, recurses := true, apart := false }
def DeltaGapsSaid : Prop := deltaGapsRow.holds Try.pinned (OpenSpec.ofChange deltaGapsSpec)

/-- ITS FALSE NEIGHBOUR: 'it returns false'. Refute it at one input. -/
def deltaGapsWrong : ChangeSpec := { name := "deltaGaps", fn := fun _ => fun
  | [d1, d2] => { results := [.lit (.bool false)], args := [d1, d2] }
  | _ => none }
def DeltaGapsWrongFalsely : Prop := deltaGapsRow.holds Try.pinned (OpenSpec.ofChange deltaGapsWrong)

/-- 'graftlaw15.DeltaApplies': WHATEVER THE INPUT: true; the input reads as it did. -/
def deltaAppliesSpec : ChangeSpec := { name := "deltaApplies", fn := fun _ => fun
  | [d1, d2, d3, d4] => { results := [.lit (.bool true)], args := [d1, d2, d3, d4] }
  | _ => none }
def deltaAppliesRow : OpenClaim := { program := "ytkkilkojmdeopaa", sum := "ae71b4c81f8f342d68b64256f62913e5e32a3aa1e7675331f65502174f3ac825", func := "graft/graftlaw15.DeltaApplies", spec := "deltaApplies", unfollowed := true, recurses := true, apart := false }
def DeltaAppliesSaid : Prop := deltaAppliesRow.holds Try.pinned (OpenSpec.ofChange deltaAppliesSpec)

/-- ITS FALSE NEIGHBOUR: 'it returns false'. Refute it at one input. -/
def deltaAppliesWrong : ChangeSpec := { name := "deltaApplies", fn := fun _ => fun
  | [d1, d2, d3, d4] => { results := [.lit (.bool false)], args := [d1, d2, d3, d4] }
  | _ => none }
def DeltaAppliesWrongFalsely : Prop := deltaAppliesRow.holds Try.pinned (OpenSpec.ofChange deltaAppliesWrong)

/-- 'graftlaw15.DeltaBook': WHATEVER THE INPUT: true; the input reads as it did. -/
def deltaBookSpec : ChangeSpec := { name := "deltaBook", fn := fun _ => fun
  | [d1, d2] => { results := [.lit (.bool true)], args := [d1, d2] }
  | _ => none }
def deltaBookRow : OpenClaim := { program := "ytkkilkojmdeopaa", sum := "ae71b4c81f8f342d68b64256f62913e5e32a3aa1e7675331f65502174f3ac825", func := "graft/graftlaw15.DeltaBook", spec := "deltaBook", unfollowed := true, recurses := true, apart := false }
def DeltaBookSaid : Prop := deltaBookRow.holds Try.pinned (OpenSpec.ofChange deltaBookSpec)

/-- ITS FALSE NEIGHBOUR: 'it returns false'. Refute it at one input. -/
def deltaBookWrong : ChangeSpec := { name := "deltaBook", fn := fun _ => fun
  | [d1, d2] => { results := [.lit (.bool false)], args := [d1, d2] }
  | _ => none }
def DeltaBookWrongFalsely : Prop := deltaBookRow.holds Try.pinned (OpenSpec.ofChange deltaBookWrong)

/- THE SECOND FORM. 'bulk': how many values and letters a reading holds, each counted each time it is reached (what is shared counts as often as it is met; a slice's spare places count too). A statement '..UptoSaid' is the law's where the arguments, and the package variables that the reading takes, are together of bulk at most 1048576: NARROWER than '..Said'. Prove '..Said' where nothing that the law and all that it calls make is longer than what came in: it says more and counts as full. Else prove '..UptoSaid'. A law counts once. -/
mutual
def uptoBulk {H : Type} : DataW H → Nat
  | .lit (.string bytes) => bytes.length + 1
  | .lit _ => 1
  | .nil => 1
  | .ptr d => uptoBulk d + 1
  | .slice elems spare => uptoBulkAll elems + uptoBulkAll spare + 1
  | .agg parts => uptoBulkAll parts + 1
  | .iface _ d => uptoBulk d + 1
  | .map entries => uptoBulkEntries entries + 1
  | .held _ => 1
def uptoBulkAll {H : Type} : List (DataW H) → Nat
  | [] => 0
  | d :: r => uptoBulk d + uptoBulkAll r
def uptoBulkEntries {H : Type} : List (Lit × DataW H) → Nat
  | [] => 0
  | x :: r => uptoBulkEntry x + uptoBulkEntries r
def uptoBulkEntry {H : Type} : Lit × DataW H → Nat
  | (.string bytes, d) => bytes.length + uptoBulk d + 1
  | (_, d) => uptoBulk d + 1
 end
def uptoSmall : (H : Type) → List (DataW H) → Bool := fun _ ds => decide (uptoBulkAll ds ≤ 1048576)
def OpenSpec.upto (s : _root_.Go.ChangeSpec) : _root_.Go.OpenSpec := { _root_.Go.OpenSpec.ofChange s with cond := some uptoSmall }

/-- 'graftlaw15.DeltaGaps', WHERE WHAT IT READS IS OF BULK AT MOST 1048576: true; the input reads as it did. -/
def deltaGapsUptoRow : OpenClaim := { program := "ytkkilkojmdeopaa", sum := "ae71b4c81f8f342d68b64256f62913e5e32a3aa1e7675331f65502174f3ac825", func := "graft/graftlaw15.DeltaGaps", spec := "deltaGaps", unfollowed := true, recurses := true, apart := false, narrowed := true }
def DeltaGapsUptoSaid : Prop := deltaGapsUptoRow.holds Try.pinned (OpenSpec.upto deltaGapsSpec)

/-- 'graftlaw15.DeltaApplies', WHERE WHAT IT READS IS OF BULK AT MOST 1048576: true; the input reads as it did. -/
def deltaAppliesUptoRow : OpenClaim := { program := "ytkkilkojmdeopaa", sum := "ae71b4c81f8f342d68b64256f62913e5e32a3aa1e7675331f65502174f3ac825", func := "graft/graftlaw15.DeltaApplies", spec := "deltaApplies", unfollowed := true, recurses := true, apart := false, narrowed := true }
def DeltaAppliesUptoSaid : Prop := deltaAppliesUptoRow.holds Try.pinned (OpenSpec.upto deltaAppliesSpec)

/-- 'graftlaw15.DeltaBook', WHERE WHAT IT READS IS OF BULK AT MOST 1048576: true; the input reads as it did. -/
def deltaBookUptoRow : OpenClaim := { program := "ytkkilkojmdeopaa", sum := "ae71b4c81f8f342d68b64256f62913e5e32a3aa1e7675331f65502174f3ac825", func := "graft/graftlaw15.DeltaBook", spec := "deltaBook", unfollowed := true, recurses := true, apart := false, narrowed := true }
def DeltaBookUptoSaid : Prop := deltaBookUptoRow.holds Try.pinned (OpenSpec.upto deltaBookSpec)

end Rows
end Go.Proofs.Ytkkilkojmdeopaa
