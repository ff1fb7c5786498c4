import Derived.Test.YtemfnbccjbojfaaTrG1
import Derived.Test.YtemfnbccjbojfaaTrHead
import Derived.Deep.DeepMust
namespace Go.Proofs.Ytemfnbccjbojfaa
open Go.RowKit
attribute [local go_sem] Oper.semAt_some
namespace Ex
namespace Tr

def makeR (X : Nat → Rd) (st kd n : Int) (ks : List Nat) : Rd := ⟨st, 0, kd, n, 0, 0, 0, 0, ks, 1 + sizeR X ks⟩

def flatPt (l : List Nat) : List Value := l.map fun (b : Nat) => .pointer (some ⟨b, 0, none⟩)
theorem flatPt_at {l : List Nat} {i b : Nat} (h : l[i]? = some b) : (flatPt l)[i]? = some (.pointer (some ⟨b, 0, none⟩)) := by simp [flatPt, h]
end Tr
end Ex
end Go.Proofs.Ytemfnbccjbojfaa
