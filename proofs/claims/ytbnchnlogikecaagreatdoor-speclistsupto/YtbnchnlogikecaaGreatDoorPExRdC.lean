import Derived.Test.YtbnchnlogikecaaGreatDoorPExRd9
import Derived.Test.YtbnchnlogikecaaGreatDoorPExBounds
import Derived.Deep.DeepMust
import Derived.OwnWalk
namespace Go.Proofs.YtbnchnlogikecaaGreatDoor
open Go.RowKit
attribute [local go_sem] Oper.semAt_some
namespace Ex
theorem reader_new (w : World) (T : ByteArray) {b : Nat} (hb : w.heap.size = b) : RAt (w.alloc (.cells #[.string T, .int .i64 0, .int .i64 0, .int .i64 0, .string ⟨#[]⟩] 184)) b T 0 0 0 := by
  subst hb
  exact heap_alloc_new w _
theorem Kept.set {w W : World} {g o : Nat} {v : Value} (h : Kept w W) (hg : w.heap.size ≤ g) : Kept w (W.setCell ⟨g, o, none⟩ v) :=
  ⟨h.1, h.2.1, h.2.2.1, by simpa [World.setCell] using h.2.2.2.1, fun k hk => (Below.heap_setCell _ _ _ _ (show k ≠ g by omega)).trans (h.2.2.2.2 k hk)⟩
theorem heap_set {W : World} {g o d : Nat} {v : Value} {x : Option Obj} (h : W.heap[d]? = x) (hd : d ≠ g) : (W.setCell ⟨g, o, none⟩ v).heap[d]? = x := (Below.heap_setCell _ _ _ _ hd).trans h
def FaultAt (w : World) (g : Nat) (y0 y1 y2 : Value) : Prop := w.heap[g]? = some (.cells #[y0, y1, y2] 30 (0, 0))
theorem fault_facts {w : World} {g : Nat} {y0 y1 y2 : Value} (h : FaultAt w g y0 y1 y2) : (w.cell? ⟨g, 0, none⟩ = some y0 ∧ w.cell? ⟨g, 1, none⟩ = some y1 ∧ w.cell? ⟨g, 2, none⟩ = some y2) ∧ w.frozen? ⟨g, 0, none⟩ = false ∧ w.frozen? ⟨g, 1, none⟩ = false ∧ w.frozen? ⟨g, 2, none⟩ = false := by
  unfold FaultAt at h
  refine ⟨⟨?_, ?_, ?_⟩, ?_, ?_, ?_⟩ <;> simp [World.cell?, World.frozen?, h]
theorem FaultAt.set {W : World} {g : Nat} {y0 y1 y2 x0 x1 x2 : Value} (h : FaultAt W g y0 y1 y2) : FaultAt (((W.setCell ⟨g, 0, none⟩ x0).setCell ⟨g, 1, none⟩ x1).setCell ⟨g, 2, none⟩ x2) g x0 x1 x2 := by
  unfold FaultAt at h ⊢
  have hl : g < W.heap.size := (Array.getElem?_eq_some_iff.1 h).1
  have he : W.heap[g] = Obj.cells #[y0, y1, y2] 30 (0, 0) := by rw [Array.getElem?_eq_getElem hl] at h; exact Option.some.inj h
  simp [World.setCell, Array.getElem_modify, hl, he]
theorem parse_box0 {w w7 w8 : World} {o : Obj} {c : Array Value} {t : TypeId} (hk : KeptBut (w.heap.size + 1 + 1) (((w.alloc (.cells #[.int .i64 0, .int .i64 0, .int .i64 0, .int .i64 0, .int .i64 0, .slice none 0 0] 70)).alloc (.cells #[.int .i64 0, .int .i64 0, .string ⟨#[]⟩] 30)).alloc o) w7) (h8 : Kept (w7.alloc (.cells c t)) w8) : BoxAt w8 w.heap.size (.int .i64 0) (.int .i64 0) (.int .i64 0) (.int .i64 0) (.int .i64 0) (.slice none 0 0) := by
  have h1 : BoxAt (((w.alloc (.cells #[.int .i64 0, .int .i64 0, .int .i64 0, .int .i64 0, .int .i64 0, .slice none 0 0] 70)).alloc (.cells #[.int .i64 0, .int .i64 0, .string ⟨#[]⟩] 30)).alloc o) w.heap.size (.int .i64 0) (.int .i64 0) (.int .i64 0) (.int .i64 0) (.int .i64 0) (.slice none 0 0) := by
    unfold BoxAt
    rw [heap_alloc_old _ _ (by simp; omega), heap_alloc_old _ _ (by simp)]
    exact heap_alloc_new w _
  exact ((h1.but hk (by omega)).keep ((Kept.refl _).alloc c t)).keep h8
theorem parse_box1 {w w7 w8 : World} {o : Obj} {c : Array Value} {t : TypeId} (hk : KeptBut (w.heap.size + 1 + 1) (((w.alloc (.cells #[.int .i64 0, .int .i64 0, .int .i64 0, .int .i64 0, .int .i64 0, .slice none 0 0] 70)).alloc (.cells #[.int .i64 0, .int .i64 0, .string ⟨#[]⟩] 30)).alloc o) w7) (h8 : Kept (w7.alloc (.cells c t)) w8) : FaultAt w8 (w.heap.size + 1) (.int .i64 0) (.int .i64 0) (.string ⟨#[]⟩) := by
  have h1 : FaultAt (((w.alloc (.cells #[.int .i64 0, .int .i64 0, .int .i64 0, .int .i64 0, .int .i64 0, .slice none 0 0] 70)).alloc (.cells #[.int .i64 0, .int .i64 0, .string ⟨#[]⟩] 30)).alloc o) (w.heap.size + 1) (.int .i64 0) (.int .i64 0) (.string ⟨#[]⟩) := by
    unfold FaultAt
    rw [heap_alloc_old _ _ (by simp)]
    exact heap_alloc2_new w _ _
  have hl : w.heap.size + 1 < (((w.alloc (.cells #[.int .i64 0, .int .i64 0, .int .i64 0, .int .i64 0, .int .i64 0, .slice none 0 0] 70)).alloc (.cells #[.int .i64 0, .int .i64 0, .string ⟨#[]⟩] 30)).alloc o).heap.size := by simp
  have h2 : FaultAt w7 (w.heap.size + 1) (.int .i64 0) (.int .i64 0) (.string ⟨#[]⟩) := (hk.2.2.2.2 _ hl (by omega)).trans h1
  have h3 : w.heap.size + 1 < w7.heap.size := Nat.lt_of_lt_of_le hl hk.2.2.2.1
  have hk2 := gtrans ((Kept.refl w7).alloc c t) h8
  exact (hk2.2.2.2.2 _ h3).trans h2
theorem parse_results {fn : Func} {p q : Tmp} (h : fn.results = #[.cell p 70, .cell q 30]) (tmps : Array Value) (w : World) (g g' : Nat) (x0 x1 x2 x3 x4 x5 y0 y1 y2 : Value)
    (hp : tmps.getD p undef = .pointer (some ⟨g, 0, none⟩)) (hg : w.heap[g]? = some (.cells #[x0, x1, x2, x3, x4, x5] 70 (0, 0)))
    (hp' : tmps.getD q undef = .pointer (some ⟨g', 0, none⟩)) (hg' : w.heap[g']? = some (.cells #[y0, y1, y2] 30 (0, 0))) :
    (results fn tmps).run Tryz.prog w = .ok (.tuple #[.agg #[x0, x1, x2, x3, x4, x5], .agg #[y0, y1, y2]]) w := by
  have hp2 : tmps[p]?.getD undef = .pointer (some ⟨g, 0, none⟩) := by simpa using hp
  have hp3 : tmps[q]?.getD undef = .pointer (some ⟨g', 0, none⟩) := by simpa using hp'
  have e1 := run_loadVar_row (P := Tryz.prog) w g 70 70 _ (0, 0) _ hg Tryz.underlying70 rfl (by kernel_rfl)
  have e2 := run_loadVar_row (P := Tryz.prog) w g' 30 30 _ (0, 0) _ hg' Tryz.underlying30 rfl (by kernel_rfl)
  simp [results, h, hp2, hp3, asAddr, e1, e2]
theorem parse_kept {w w7 w8 : World} {o1 o2 o3 : Obj} {c : Array Value} {t : TypeId} (hk : KeptBut (w.heap.size + 1 + 1) (((w.alloc o1).alloc o2).alloc o3) w7) (h8 : Kept (w7.alloc (.cells c t)) w8) : Kept w w8 := by
  have h1 : Kept w (((w.alloc o1).alloc o2).alloc o3) := Kept.of ((((Below.refl _ _).alloc (Nat.le_refl _) _).alloc (by simp) _).alloc (by simp; omega) _)
  have h2 : Kept w w7 := KeptBut.up h1 (by omega) hk
  exact gtrans (h2.alloc c t) h8
def wholeA (T : ByteArray) (s : Int × Int × Int) : Pat × Int × Int × Int := if (patA T 4098 s).2.1 < T.size then ((patA T 4098 s).1, wrongS T (patA T 4098 s).2) else patA T 4098 s
end Ex
end Go.Proofs.YtbnchnlogikecaaGreatDoor
