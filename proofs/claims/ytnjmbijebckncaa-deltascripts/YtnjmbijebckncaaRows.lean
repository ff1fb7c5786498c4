/-
  No cell of these rows narrows 'for every input' (looked for: loops, veiled, ifaces, maps, wideKeys, modest, calm, conditions, laid).
  DERIVED. THE GIVEN ROWS OF THIS SEAT. 6 by the template 'for every input the law returns true; each argument reads behind the call as it read before'; 0 by the template 'total and deterministic' (their statements: YtnjmbijebckncaaTotals.lean).
  GIVEN WITH THE SEED: the statements are not yours to turn. If you find one false, say at which input.
  Laid BY PROGRAM, IN A SANDBOX (cutbox-rows.mjs): the forced cells as the released guide's own fill.sh prints them over the translation cd827a0893c72721… (all of the seat's roots in one cut). By AI agents, Wed Nov 11 2026. No macro, syntax, notation, axiom, sorry.
-/
import Derived.Test.YtnjmbijebckncaaChecked
import GoSem.Claim
import GoSem.ClaimJoined
import GoSem.ClaimMapViews
import Derived.JoinedTies
import Derived.KernelRfl
namespace Go.Proofs.Ytnjmbijebckncaa
/- THE CELL 'sum', in the pinned program and in every row, IS THE sha256 OF THE DUMP (.gsa) THAT YtnjmbijebckncaaProg.lean LOADS. Nothing in Lean hashes anything: it is a label: what it is worth is what the hold of that sum in a sandbox is worth. -/
noncomputable def Try.pinned : Pinned := { name := "ytnjmbijebckncaa", sum := "cd827a0893c72721a1922b2166de6d816e30407366607a695b2b702022d8cf67", checked := Try.checked }
namespace Rows
def none {H : Type} : Left H := { results := [], args := [] }

/-- 'graftlaw15.DeltaBytes': WHATEVER THE INPUT: true; the input reads as it did. -/
def deltaBytesSpec : ChangeSpec := { name := "deltaBytes", fn := fun _ => fun
  | [d1, d2] => { results := [.lit (.bool true)], args := [d1, d2] }
  | _ => none }
def deltaBytesRow : OpenClaim := { program := "ytnjmbijebckncaa", sum := "cd827a0893c72721a1922b2166de6d816e30407366607a695b2b702022d8cf67", func := "graft/graftlaw15.DeltaBytes", spec := "deltaBytes", unfollowed := true, recurses := true, apart := false }
def DeltaBytesSaid : Prop := deltaBytesRow.holds Try.pinned (OpenSpec.ofChange deltaBytesSpec)

/-- ITS FALSE NEIGHBOUR: 'it returns false'. Refute it at one input. -/
def deltaBytesWrong : ChangeSpec := { name := "deltaBytes", fn := fun _ => fun
  | [d1, d2] => { results := [.lit (.bool false)], args := [d1, d2] }
  | _ => none }
def DeltaBytesWrongFalsely : Prop := deltaBytesRow.holds Try.pinned (OpenSpec.ofChange deltaBytesWrong)

/-- 'graftlaw15.DeltaChain': WHATEVER THE INPUT: true; the input reads as it did. -/
def deltaChainSpec : ChangeSpec := { name := "deltaChain", fn := fun _ => fun
  | [d1, d2, d3, d4] => { results := [.lit (.bool true)], args := [d1, d2, d3, d4] }
  | _ => none }
def deltaChainRow : OpenClaim := { program := "ytnjmbijebckncaa", sum := "cd827a0893c72721a1922b2166de6d816e30407366607a695b2b702022d8cf67", func := "graft/graftlaw15.DeltaChain", spec := "deltaChain", unfollowed := true, recurses := true, apart := false }
def DeltaChainSaid : Prop := deltaChainRow.holds Try.pinned (OpenSpec.ofChange deltaChainSpec)

/-- ITS FALSE NEIGHBOUR: 'it returns false'. Refute it at one input. -/
def deltaChainWrong : ChangeSpec := { name := "deltaChain", fn := fun _ => fun
  | [d1, d2, d3, d4] => { results := [.lit (.bool false)], args := [d1, d2, d3, d4] }
  | _ => none }
def DeltaChainWrongFalsely : Prop := deltaChainRow.holds Try.pinned (OpenSpec.ofChange deltaChainWrong)

/-- 'graftlaw15.DeltaMoves': WHATEVER THE INPUT: true; the input reads as it did. -/
def deltaMovesSpec : ChangeSpec := { name := "deltaMoves", fn := fun _ => fun
  | [d1, d2, d3] => { results := [.lit (.bool true)], args := [d1, d2, d3] }
  | _ => none }
def deltaMovesRow : OpenClaim := { program := "ytnjmbijebckncaa", sum := "cd827a0893c72721a1922b2166de6d816e30407366607a695b2b702022d8cf67", func := "graft/graftlaw15.DeltaMoves", spec := "deltaMoves", unfollowed := true, recurses := true, apart := false }
def DeltaMovesSaid : Prop := deltaMovesRow.holds Try.pinned (OpenSpec.ofChange deltaMovesSpec)

/-- ITS FALSE NEIGHBOUR: 'it returns false'. Refute it at one input. -/
def deltaMovesWrong : ChangeSpec := { name := "deltaMoves", fn := fun _ => fun
  | [d1, d2, d3] => { results := [.lit (.bool false)], args := [d1, d2, d3] }
  | _ => none }
def DeltaMovesWrongFalsely : Prop := deltaMovesRow.holds Try.pinned (OpenSpec.ofChange deltaMovesWrong)

/-- 'graftlaw15.DeltaGaps': WHATEVER THE INPUT: true; the input reads as it did. -/
def deltaGapsSpec : ChangeSpec := { name := "deltaGaps", fn := fun _ => fun
  | [d1, d2] => { results := [.lit (.bool true)], args := [d1, d2] }
  | _ => none }
def deltaGapsRow : OpenClaim := { program := "ytnjmbijebckncaa", sum := "cd827a0893c72721a1922b2166de6d816e30407366607a695b2b702022d8cf67", func := "graft/graftlaw15.DeltaGaps", spec := "deltaGaps", unfollowed := true, recurses := true, apart := false }
def DeltaGapsSaid : Prop := deltaGapsRow.holds Try.pinned (OpenSpec.ofChange deltaGapsSpec)

/-- ITS FALSE NEIGHBOUR: 'it returns false'. Refute it at one input. -/
def deltaGapsWrong : ChangeSpec := { name := "deltaGaps", fn := fun _ => fun
  | [d1, d2] => { results := [.lit (.bool false)], args := [d1, d2] }
  | _ => none }
def DeltaGapsWrongFalsely : Prop := deltaGapsRow.holds Try.pinned (OpenSpec.ofChange deltaGapsWrong)

/-- 'graftlaw15.DeltaLeaves': WHATEVER THE INPUT: true; the input reads as it did. -/
def deltaLeavesSpec : ChangeSpec := { name := "deltaLeaves", fn := fun _ => fun
  | [d1, d2] => { results := [.lit (.bool true)], args := [d1, d2] }
  | _ => none }
def deltaLeavesRow : OpenClaim := { program := "ytnjmbijebckncaa", sum := "cd827a0893c72721a1922b2166de6d816e30407366607a695b2b702022d8cf67", func := "graft/graftlaw15.DeltaLeaves", spec := "deltaLeaves", unfollowed := true, recurses := true, apart := false }
def DeltaLeavesSaid : Prop := deltaLeavesRow.holds Try.pinned (OpenSpec.ofChange deltaLeavesSpec)

/-- ITS FALSE NEIGHBOUR: 'it returns false'. Refute it at one input. -/
def deltaLeavesWrong : ChangeSpec := { name := "deltaLeaves", fn := fun _ => fun
  | [d1, d2] => { results := [.lit (.bool false)], args := [d1, d2] }
  | _ => none }
def DeltaLeavesWrongFalsely : Prop := deltaLeavesRow.holds Try.pinned (OpenSpec.ofChange deltaLeavesWrong)

/-- 'graftlaw15.DeltaScripts': WHATEVER THE INPUT: true; the input reads as it did. -/
def deltaScriptsSpec : ChangeSpec := { name := "deltaScripts", fn := fun _ => fun
  | [d1, d2] => { results := [.lit (.bool true)], args := [d1, d2] }
  | _ => none }
def deltaScriptsRow : OpenClaim := { program := "ytnjmbijebckncaa", sum := "cd827a0893c72721a1922b2166de6d816e30407366607a695b2b702022d8cf67", func := "graft/graftlaw15.DeltaScripts", spec := "deltaScripts", unfollowed := true, recurses := true, apart := false }
def DeltaScriptsSaid : Prop := deltaScriptsRow.holds Try.pinned (OpenSpec.ofChange deltaScriptsSpec)

/-- ITS FALSE NEIGHBOUR: 'it returns false'. Refute it at one input. -/
def deltaScriptsWrong : ChangeSpec := { name := "deltaScripts", fn := fun _ => fun
  | [d1, d2] => { results := [.lit (.bool false)], args := [d1, d2] }
  | _ => none }
def DeltaScriptsWrongFalsely : Prop := deltaScriptsRow.holds Try.pinned (OpenSpec.ofChange deltaScriptsWrong)

/- THE SECOND FORM. 'bulk': how many values and letters a reading holds, each counted each time it is reached (what is shared counts as often as it is met; a slice's spare places count too). A statement '..UptoSaid' is the law's where the arguments, and the package variables that the reading takes, are together of bulk at most 1048576: NARROWER than '..Said'. Prove '..Said' where nothing that the law and all that it calls make is longer than what came in: it says more and counts as full. Else prove '..UptoSaid'. A law counts once. -/
mutual
def uptoBulk {H : Type} : DataW H → Nat
  | .lit (.string bytes) => bytes.length + 1
  | .lit _ => 1
  | .nil => 1
  | .ptr d => uptoBulk d + 1
  | .slice elems spare => uptoBulkAll elems + uptoBulkAll spare + 1
  | .agg parts => uptoBulkAll parts + 1
  | .iface _ d => uptoBulk d + 1
  | .map entries => uptoBulkEntries entries + 1
  | .held _ => 1
def uptoBulkAll {H : Type} : List (DataW H) → Nat
  | [] => 0
  | d :: r => uptoBulk d + uptoBulkAll r
def uptoBulkEntries {H : Type} : List (Lit × DataW H) → Nat
  | [] => 0
  | x :: r => uptoBulkEntry x + uptoBulkEntries r
def uptoBulkEntry {H : Type} : Lit × DataW H → Nat
  | (.string bytes, d) => bytes.length + uptoBulk d + 1
  | (_, d) => uptoBulk d + 1
 end
def uptoSmall : (H : Type) → List (DataW H) → Bool := fun _ ds => decide (uptoBulkAll ds ≤ 1048576)
def OpenSpec.upto (s : _root_.Go.ChangeSpec) : _root_.Go.OpenSpec := { _root_.Go.OpenSpec.ofChange s with cond := some uptoSmall }

/-- 'graftlaw15.DeltaBytes', WHERE WHAT IT READS IS OF BULK AT MOST 1048576: true; the input reads as it did. -/
def deltaBytesUptoRow : OpenClaim := { program := "ytnjmbijebckncaa", sum := "cd827a0893c72721a1922b2166de6d816e30407366607a695b2b702022d8cf67", func := "graft/graftlaw15.DeltaBytes", spec := "deltaBytes", unfollowed := true, recurses := true, apart := false, narrowed := true }
def DeltaBytesUptoSaid : Prop := deltaBytesUptoRow.holds Try.pinned (OpenSpec.upto deltaBytesSpec)

/-- 'graftlaw15.DeltaChain', WHERE WHAT IT READS IS OF BULK AT MOST 1048576: true; the input reads as it did. -/
def deltaChainUptoRow : OpenClaim := { program := "ytnjmbijebckncaa", sum := "cd827a0893c72721a1922b2166de6d816e30407366607a695b2b702022d8cf67", func := "graft/graftlaw15.DeltaChain", spec := "deltaChain", unfollowed := true, recurses := true, apart := false, narrowed := true }
def DeltaChainUptoSaid : Prop := deltaChainUptoRow.holds Try.pinned (OpenSpec.upto deltaChainSpec)

/-- 'graftlaw15.DeltaMoves', WHERE WHAT IT READS IS OF BULK AT MOST 1048576: true; the input reads as it did. -/
def deltaMovesUptoRow : OpenClaim := { program := "ytnjmbijebckncaa", sum := "cd827a0893c72721a1922b2166de6d816e30407366607a695b2b702022d8cf67", func := "graft/graftlaw15.DeltaMoves", spec := "deltaMoves", unfollowed := true, recurses := true, apart := false, narrowed := true }
def DeltaMovesUptoSaid : Prop := deltaMovesUptoRow.holds Try.pinned (OpenSpec.upto deltaMovesSpec)

/-- 'graftlaw15.DeltaGaps', WHERE WHAT IT READS IS OF BULK AT MOST 1048576: true; the input reads as it did. -/
def deltaGapsUptoRow : OpenClaim := { program := "ytnjmbijebckncaa", sum := "cd827a0893c72721a1922b2166de6d816e30407366607a695b2b702022d8cf67", func := "graft/graftlaw15.DeltaGaps", spec := "deltaGaps", unfollowed := true, recurses := true, apart := false, narrowed := true }
def DeltaGapsUptoSaid : Prop := deltaGapsUptoRow.holds Try.pinned (OpenSpec.upto deltaGapsSpec)

/-- 'graftlaw15.DeltaLeaves', WHERE WHAT IT READS IS OF BULK AT MOST 1048576: true; the input reads as it did. -/
def deltaLeavesUptoRow : OpenClaim := { program := "ytnjmbijebckncaa", sum := "cd827a0893c72721a1922b2166de6d816e30407366607a695b2b702022d8cf67", func := "graft/graftlaw15.DeltaLeaves", spec := "deltaLeaves", unfollowed := true, recurses := true, apart := false, narrowed := true }
def DeltaLeavesUptoSaid : Prop := deltaLeavesUptoRow.holds Try.pinned (OpenSpec.upto deltaLeavesSpec)

/-- 'graftlaw15.DeltaScripts', WHERE WHAT IT READS IS OF BULK AT MOST 1048576: true; the input reads as it did. -/
def deltaScriptsUptoRow : OpenClaim := { program := "ytnjmbijebckncaa", sum := "cd827a0893c72721a1922b2166de6d816e30407366607a695b2b702022d8cf67", func := "graft/graftlaw15.DeltaScripts", spec := "deltaScripts", unfollowed := true, recurses := true, apart := false, narrowed := true }
def DeltaScriptsUptoSaid : Prop := deltaScriptsUptoRow.holds Try.pinned (OpenSpec.upto deltaScriptsSpec)

end Rows
end Go.Proofs.Ytnjmbijebckncaa
