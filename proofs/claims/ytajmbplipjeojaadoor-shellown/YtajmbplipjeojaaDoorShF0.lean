import Derived.Test.YtajmbplipjeojaaDoorRows
import Derived.Test.YtajmbplipjeojaaDoorShE
import Derived.ProofKit
import Derived.LaidMore
import Derived.OpenShut
import Derived.Stop.Joined
import Derived.Lay
namespace Go.Proofs.YtajmbplipjeojaaDoor
open Go.ChangeShapes Go.WideShapes Go.ChangeAt Go.RowKit
namespace Ex
namespace Sh

theorem own : ownKnob Tryd.prog.godebug = none := by kernel_rfl
theorem laidOut : laidOutB Tryd.prog = true := by kernel_rfl
theorem tEs : (Tryd.prog.globals[3]?).map (·.type) = some 74 := by kernel_rfl
theorem iface_of {P : Program} {w : World} {fuel : Nat} {t : TypeId} {cs : List Value} {n : String} {d : DataW Unit} {p : List MemPlace} {ms : Array (String × TypeId)} (ht : P.underlying t = some (.interface ms)) (h : DataW.trod (fun _ => ()) P w 0 (fun _ => true) false fuel t cs = some (.iface n d, p)) : ∃ u v, cs = [.iface u v] := by
  cases fuel with
  | zero => simp [DataW.trod] at h
  | succ fuel =>
    unfold DataW.trod at h
    rw [ht] at h
    split at h
    all_goals first | exact ⟨_, _, rfl⟩ | (simp at h; done) | (simp_all; done) | skip
theorem of_laid {W : World} (h : laidMetH Tryd.prog Rows.shellWordsRow.laid W) : EsAt W := by
  rw [MakeChecks.laidMetH_plain _ _ _ (by kernel_rfl)] at h
  obtain ⟨ps, ⟨g0, t0, cs0, f0, p0, q0, hg0, ht0, hv0, hd0, ⟨g1, t1, cs1, f1, p1, q1, hg1, ht1, hv1, hd1, ⟨g2, t2, cs2, f2, p2, q2, hg2, ht2, hv2, hd2, ⟨g3, t3, cs3, f3, p3, q3, hg3, ht3, hv3, hd3, ⟨g4, t4, cs4, f4, p4, q4, hg4, ht4, hv4, hd4, ⟨g5, t5, cs5, f5, p5, q5, hg5, ht5, hv5, hd5, _, _⟩, _⟩, _⟩, _⟩, _⟩, _⟩, _, _⟩ := h
  obtain rfl : g5 = 3 := Option.some.inj (hg5.symm.trans (by kernel_rfl))
  obtain rfl := Option.some.inj (tEs.symm.trans ht5)
  obtain ⟨u, v, hc⟩ := iface_of Tryd.underlying74 hd5
  have hcell := World.var?_cell hg5 hv5 0
  refine ⟨u, v, ?_⟩
  rw [hcell]
  rw [← Array.getElem?_toList, hc]
  rfl

end Sh
end Ex
end Go.Proofs.YtajmbplipjeojaaDoor
