import Derived.Test.YtlgojnodhbmlkaaGreatDoorRows
import Derived.ProofKit
import Derived.LaidMore
import Derived.OpenShut
import Derived.Stop.Joined
import Derived.Lib.TrailingZeros
namespace Go.Proofs.YtlgojnodhbmlkaaGreatDoor
open Go.ChangeShapes Go.WideShapes Go.ChangeAt Go.RowKit
namespace Ex

theorem own : ownKnob Tryz.prog.godebug = none := by kernel_rfl
theorem laidOut : laidOutB Tryz.prog = true := by kernel_rfl
theorem tTab : (Tryz.prog.globals[0]?).map (·.type) = some 129 := by kernel_rfl
theorem u8_one : Tryz.prog.cellsOf 5 = 1 := by kernel_rfl
/-- The door's own heap meets the condition. -/
theorem door_met (os : Os) (args : Array Value) : laidMetH Tryz.prog Rows.exprMatchesRow.laid ((World.doorLaid Tryz.prog 4000 os).forCall (fun _ _ => 0) ⟨#[], args, []⟩).memory :=
  laidMetH_of_parts3 (fuel := 8) (laidMet_of_run' 8 (by kernel_rfl) (by kernel_rfl)) (by kernel_rfl) (by kernel_rfl)
theorem tab_datum : (Rows.laid_math_bits_deBruijn64tab : DataW Unit) = .agg (Lib.deBruijn64tab.map fun (n : Nat) => DataW.lit (Lit.int .u8 (n : Int))) := rfl
theorem of_laid {W : World} (h : laidMetH Tryz.prog Rows.exprMatchesRow.laid W) : ∀ j, j < 64 → W.cell? ⟨0, j, none⟩ = some (.int .u8 (Lib.deBruijn64tab.getD j 0 : Nat)) := by
  rw [MakeChecks.laidMetH_plain _ _ _ (by kernel_rfl)] at h
  obtain ⟨ps, ⟨g0, t0, cs0, f0, p0, q0, hg0, ht0, hv0, hd0, ⟨g1, t1, cs1, f1, p1, q1, hg1, ht1, hv1, hd1, _, _⟩, _⟩, _, _⟩ := h
  obtain rfl : g1 = 0 := Option.some.inj (hg1.symm.trans (by kernel_rfl))
  obtain rfl := Option.some.inj (tTab.symm.trans ht1)
  intro j hj
  have hcell := World.var?_cell hg1 hv1 j
  rw [hcell]
  obtain ⟨xs, m1, rfl, hx1, hlen, hn, hel⟩ := DataW.trod_array Tryz.underlying129 hd1
  rw [tab_datum] at hx1
  simp only [Prod.mk.injEq, DataW.agg.injEq] at hx1
  have hj0 := hel j (by simpa using hj)
  obtain ⟨xj, hxj⟩ : ∃ x, xs[j]? = some x := ⟨_, List.getElem?_eq_getElem (by rw [hn]; exact hj)⟩
  rw [hxj, u8_one] at hj0
  obtain ⟨k, e1, e2, _⟩ := DataW.trod_int Tryz.underlying5 hj0
  have hq : (xs.map (·.1))[j]? = some xj.1 := by rw [List.getElem?_map, hxj]; rfl
  rw [← hx1.1, List.getElem?_map] at hq
  obtain ⟨n, hn1, hn2⟩ := Option.map_eq_some_iff.1 hq
  rw [e2] at hn2
  simp only [DataW.lit.injEq, Lit.int.injEq, true_and] at hn2
  have hk : (Lib.deBruijn64tab.getD j 0 : Nat) = n := by rw [List.getD_eq_getElem?_getD, hn1]; rfl
  rw [hk, hn2]
  have e3 : (cs1.toList.drop (j * 1)).take 1 = [.int .u8 k] := e1
  rw [Nat.mul_one] at e3
  have e4 : ((cs1.toList.drop j).take 1)[0]? = some (.int .u8 k) := by rw [e3]; rfl
  rw [List.getElem?_take] at e4
  simpa using e4

end Ex
end Go.Proofs.YtlgojnodhbmlkaaGreatDoor
