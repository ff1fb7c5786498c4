import Derived.Test.YteckbpmliahhhaaMTrK1
import Derived.Deep.RegionHeld3
namespace Go.Proofs.Yteckbpmliahhhaa
open Go.RowKit
attribute [local go_sem] Oper.semAt_some
namespace Ex
namespace Tr

theorem box4_tmp {fn : Func} {p u : Tmp} (h : fn.results = #[.cell p 34, .tmp u]) (tmps : Array Value) (w : World) (g : Nat) (x0 x1 x2 x3 v : Value) (hp : tmps.getD p undef = .pointer (some ⟨g, 0, none⟩)) (hu : tmps.getD u undef = v) (hg : w.heap[g]? = some (.cells #[x0, x1, x2, x3] 34 (0, 0))) :
    (results fn tmps).run Try.prog w = .ok (.tuple #[.agg #[x0, x1, x2, x3], v]) w := by
  have hp' : tmps[p]?.getD undef = .pointer (some ⟨g, 0, none⟩) := by simpa using hp
  have hu' : tmps[u]?.getD undef = v := by simpa using hu
  have hl := run_loadVar_row (P := Try.prog) w g 34 34 #[x0, x1, x2, x3] (0, 0) _ hg Try.underlying34 rfl (by kernel_rfl)
  simp [results, h, hp', hu', asAddr, hl]
set_option linter.unusedSimpArgs false in
set_option maxRecDepth 100000 in
set_option maxHeartbeats 4000000 in
theorem leafK_is {B b : Nat} {w : World} {x : Nd} (h : NodeAt B w b x) : Calls Try.prog 21 #[.pointer (some ⟨b, 0, none⟩)] w fun e w' => e = .returned (.tuple #[.agg #[.int .i64 x.l0, .int .i64 x.l1, .int .i64 x.l2, .int .i64 x.l3], .bool (x.kind == 1)]) ∧ Kept w w' := by
  obtain ⟨kv, _, _, _, c1, c2, c3, c4, c5, c6, c7, _⟩ := h.cells
  have hb := h.lt
  clear h
  generalize x.l0 = u0 at *
  generalize x.l1 = u1 at *
  generalize x.l2 = u2 at *
  generalize x.l3 = u3 at *
  generalize x.kind = kd at *
  go_enter Try.func21, Try.ntmps21
  go_upto_region 1 with fail
  obtain ⟨wB, hwB⟩ : ∃ wB, w.alloc (.cells #[.int .i64 0, .int .i64 0, .int .i64 0, .int .i64 0] 34) = wB := ⟨_, rfl⟩
  have HKB : Hid (Kept w wB) := by rw [← hwB]; exact (Kept.refl w).alloc _ _
  have hbx : wB.heap[w.heap.size]? = some (.cells #[.int .i64 0, .int .i64 0, .int .i64 0, .int .i64 0] 34 (0, 0)) := by rw [← hwB]; exact World.alloc_heap_new w _
  obtain ⟨gb, hgb⟩ : ∃ gb, w.heap.size = gb := ⟨_, rfl⟩
  rw [hwB]
  rw [hgb] at hbx ⊢
  have hne : b ≠ gb := by omega
  have q2 := keepsB hne (grown_cell HKB.out c2)
  have q4 := keepsB hne (grown_cell HKB.out c4)
  have q5 := keepsB hne (grown_cell HKB.out c5)
  have q6 := keepsB hne (grown_cell HKB.out c6)
  have q7 := keepsB hne (grown_cell HKB.out c7)
  have hkr : KeptBut gb wB wB := (Kept.refl wB).tbut gb
  have z0 : wB.frozen? ⟨gb, 0, none⟩ = false := by simp [World.frozen?, hbx]
  have b0 : wB.cell? ⟨gb, 0, none⟩ = some (.int .i64 0) := by simp [World.cell?, hbx]
  have z1 : wB.frozen? ⟨gb, 1, none⟩ = false := by simp [World.frozen?, hbx]
  have b1 : wB.cell? ⟨gb, 1, none⟩ = some (.int .i64 0) := by simp [World.cell?, hbx]
  have z2 : wB.frozen? ⟨gb, 2, none⟩ = false := by simp [World.frozen?, hbx]
  have b2 : wB.cell? ⟨gb, 2, none⟩ = some (.int .i64 0) := by simp [World.cell?, hbx]
  have z3 : wB.frozen? ⟨gb, 3, none⟩ = false := by simp [World.frozen?, hbx]
  have b3 : wB.cell? ⟨gb, 3, none⟩ = some (.int .i64 0) := by simp [World.cell?, hbx]
  have hgl : gb < wB.heap.size := (Array.getElem?_eq_some_iff.1 hbx).1
  have HBX := hide1 hbx
  have HGB := hide1 hgb
  clear hbx c1 c2 c3 c4 c5 c6 c7 hwB hgb
  go_region_held3 (fun W => KeptBut gb wB W) (first | assumption | exact KeptBut.drew (by assumption) | exact (but4 _ _ _ _ _ _).drew | exact but4 _ _ _ _ _ _) (fail)
  generalize hW : ((((wB.setCell ⟨gb, 0, none⟩ (.int .i64 u0)).setCell ⟨gb, 1, none⟩ (.int .i64 u1)).setCell ⟨gb, 2, none⟩ (.int .i64 u2)).setCell ⟨gb, 3, none⟩ (.int .i64 u3)).drew = W9 at *
  have hbd : KeptBut gb wB W9 := by
    rw [← hW]
    exact KeptBut.drew (but4 gb wB (.int .i64 u0) (.int .i64 u1) (.int .i64 u2) (.int .i64 u3))
  have HS7 : Hid (W9.heap[gb]? = some (.cells #[.int .i64 u0, .int .i64 u1, .int .i64 u2, .int .i64 u3] 34 (0, 0))) := by
    rw [← hW]
    have h7 := drew_heap ((((wB.setCell ⟨gb, 0, none⟩ (.int .i64 u0)).setCell ⟨gb, 1, none⟩ (.int .i64 u1)).setCell ⟨gb, 2, none⟩ (.int .i64 u2)).setCell ⟨gb, 3, none⟩ (.int .i64 u3)) gb
    rw [h7]
    exact set4 HBX.out (.int .i64 u0) (.int .i64 u1) (.int .i64 u2) (.int .i64 u3)
  have HBD := hide1 hbd
  clear hW hbd q2 q4 q5 q6 q7 z0 z1 z2 z3 b0 b1 b2 b3
  go_wp2_with fail
  refine bodyPost_ret (box4_tmp rfl _ _ gb _ _ _ _ _ rfl rfl HS7.out) rfl ?_
  exact ⟨rfl, KeptBut.new HKB.out HBD.out (by have := HGB.out; omega)⟩

end Tr
end Ex
end Go.Proofs.Yteckbpmliahhhaa
