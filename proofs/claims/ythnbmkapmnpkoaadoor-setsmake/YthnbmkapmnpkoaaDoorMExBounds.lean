import Derived.Test.YthnbmkapmnpkoaaDoorMExLook
namespace Go.Proofs.YthnbmkapmnpkoaaDoor
open Go.RowKit
attribute [local go_sem] Oper.semAt_some
namespace Ex

/-- Is a tree small enough? -/
def boundsP {n : Nat} (p : PatN (n + 1)) : Int := if 4096 < (lookP (n + 1) p 1 (0, 0)).1 then 2 else if 64 < (lookP (n + 1) p 1 (0, 0)).2 then 5 else 0

theorem KeptBut.up {b : Nat} {w u w' : World} (h : Kept w u) (hb : w.heap.size ≤ b) (hk : KeptBut b u w') : Kept w w' :=
  ⟨hk.1.trans h.1, hk.2.1.trans h.2.1, hk.2.2.1.trans h.2.2.1, Nat.le_trans h.size hk.2.2.2.1, fun k hlt => (hk.2.2.2.2 k (Nat.lt_of_lt_of_le hlt h.size) (by omega)).trans (h.2.2.2.2 k hlt)⟩
end Ex
end Go.Proofs.YthnbmkapmnpkoaaDoor
namespace Go.Proofs.YthnbmkapmnpkoaaDoor
open Go.RowKit
attribute [local go_sem] Oper.semAt_some
namespace Ex

/-- What is wrong with a tree, if anything is (P201). -/
def checkP {n : Nat} (p : PatN (n + 1)) : Int := if boundsP p = 0 then if rightP (n + 1) p = true then if 4096 < posP (n + 1) p then 21 else 0 else 20 else boundsP p
def positionsP {n : Nat} (p : PatN (n + 1)) : Int := if checkP p = 0 then posP (n + 1) p else 0

end Ex
end Go.Proofs.YthnbmkapmnpkoaaDoor
namespace Go.Proofs.YthnbmkapmnpkoaaDoor
open Go.RowKit
attribute [local go_sem] Oper.semAt_some
namespace Ex

theorem check_right {n : Nat} {p : PatN (n + 1)} (h : checkP p = 0) : rightP (n + 1) p = true := by
  unfold checkP at h
  split at h
  · split at h
    · assumption
    · cases h
  · exact absurd h (by assumption)

/-- Does it match the empty text (P202)? -/
def emptyTop {n : Nat} (p : PatN (n + 1)) : Bool := checkP p == 0 && emptyP (n + 1) p

end Ex
end Go.Proofs.YthnbmkapmnpkoaaDoor
