import Derived.Test.YthjagnnbhpfpoaaTabAdd
namespace Go.Proofs.Ythjagnnbhpfpoaa
open Go.RowKit
attribute [local go_sem] Oper.semAt_some
namespace Rope

section
variable {n0 tb g m : Nat} {S : Nat → Prop} {w w' : World} {L M : List (List Int)} {vP vR vB : Value} {ps rs cs : List Value} {xs : List Int}
theorem low_list {S' : Nat → Prop} {v : Value} (h : ListAt S' w v xs) (hb : Below n0 w w') (hS' : ∀ b, S' b → b < n0) : ListAt S' w' v xs :=
  h.mono ⟨fun b o v hb' hc => by rw [World.cell?_of_block (w := w) (a := ⟨b, o, none⟩) (hb.block b (hS' b hb'))]; exact hc, fun b v hb' _ hp o => by rw [World.frozen?_of_block (w := w) (a := ⟨b, o, none⟩) (hb.block b (hS' b hb'))]; exact hp o⟩ (fun _ h => h)
theorem RowOf.kept (h : RowOf w g cs) (hk : Kept w w') : RowOf w' g cs := by
  have hlt := h.lt
  unfold RowOf at h ⊢
  rw [hk.2.2.2.2 g hlt]; exact h
theorem Tab.notS (h : Tab n0 S w tb L M vP vR (.slice (some ⟨g, 0, none⟩) m m) ps rs cs) : ¬ S g := by
  obtain ⟨_, _, _, _, _, _, _, _, ⟨_, _, _, a4⟩, _⟩ := h
  exact (a4 g rfl).1
theorem tab_back {w1 w3 w4 : World} {cs1 cs4 : List Value} (ht : Tab n0 S w1 tb L M vP vR (.slice (some ⟨g, 0, none⟩) m m) ps rs cs1) (k13 : Kept w1 w3) (hk4 : KeptBut g w3 w4) (hr4 : RowOf w4 g cs4) (hl4 : cs4.length = m) (hg : n0 ≤ g) :
    Tab n0 (Up S w1.heap.size) w4 tb L M vP vR (.slice (some ⟨g, 0, none⟩) m m) ps rs cs4 ∧ Same (Up S w1.heap.size) w3 w4 :=
  ⟨(ht.wide.kept k13).but rfl hk4 (.inr ⟨g, by rw [hl4], hg, hr4⟩), hk4.same ht.wide.notS⟩
theorem box_lt (w : World) (o : Obj) : w.heap.size < (w.alloc o).heap.size := (Array.getElem?_eq_some_iff.1 (heap_alloc_new w o)).1
theorem box_cell {c : Array Value} {t : TypeId} {w1 : World} (h : w1.heap[w.heap.size]? = (w.alloc (.cells c t)).heap[w.heap.size]?) (i : Nat) (v : Value) (hi : c[i]? = some v) : w1.cell? ⟨w.heap.size, i, none⟩ = some v := by
  rw [World.cell?_of_block (w := w.alloc (.cells c t)) (a := ⟨w.heap.size, i, none⟩) h]
  have h2 : (w.alloc (.cells c t)).heap[w.heap.size]? = some (.cells c t) := heap_alloc_new w _
  simp only [World.cell?]
  rw [h2]
  exact hi
theorem Tab.bufNot (h : Tab n0 S w tb L M vP vR vB ps rs cs) : vB.ownBlock ≠ some w.heap.size := by
  obtain ⟨_, _, _, _, _, _, _, h8, _⟩ := h
  intro e
  have := h8.lt _ e
  omega
theorem Kept.low (hk : Kept w w') (hn : n0 ≤ w.heap.size) : Below n0 w w' := hk.below.mono hn
end

/-- A step is done. -/
def Made (n0 : Nat) (w : World) (tb : Nat) (L : List (List Int)) (e : Ending) (w' : World) : Prop :=
  e = .returned (.bool true) ∧ ∃ cs, cs.length ≤ 281474976710656 ∧ Grew n0 w tb L cs w'

set_option maxRecDepth 100000 in
set_option maxHeartbeats 8000000 in
theorem make_new {n0 tb : Nat} {S : Nat → Prop} {w : World} {L : List (List Int)} {vP vR vB : Value} {ps rs cs : List Value} (h : Tab n0 S w tb L L vP vR vB ps rs cs) (hn0 : n0 ≤ w.heap.size) (hL : (L.length : Int) < 300) (hcs : cs.length ≤ 281474976710656)
    (S' : Nat → Prop) (rr aa bb : Int) (v : Value) (xs : List Int) (hv : ListAt S' w v xs) (hS' : ∀ b, S' b → b < n0) (hn : xs.length ≤ 16777216) :
    Calls Try.prog 44 #[.pointer (some ⟨tb, 0, none⟩), .agg #[.int .i64 1, .int .i64 rr, .int .i64 aa, .int .i64 bb, v]] w (Made n0 w tb (L ++ [xs])) := by
  obtain ⟨a, cap, rfl⟩ := hv.form
  have HT := hide1 h
  have HV := hide1 hv
  have HY := hide1 hv.byt
  have HS' := hide1 hS'
  have HN := hide1 hn0
  have HC := hide1 hcs
  have c0 := h.cellP
  have htl := h.lt
  obtain ⟨aP, cP, rfl⟩ := owns_form h.ownsP
  clear h hv hS' hn0 hcs
  go_enter Try.func44, Try.ntmps44
  go_wp2_with fail
  refine (lend_tab (HT.out.kept ((Kept.refl w).alloc _ _)) S' _ xs (HV.out.kept ((Kept.refl w).alloc _ _)) HS'.out (by omega) (Nat.le_trans HN.out ((Kept.refl w).alloc _ _).size) HC.out).mono ?_
  rintro e w1 ⟨g, m, S1, cs1, rfl, ht1', hr1', hl1', hm1', hroom, hb1', hg, hmx, hgv, hoth⟩
  have hsb := hoth w.heap.size (box_lt w _) (by omega) HT.out.bufNot
  have D4 := box_cell hsb 4 (.slice a xs.length cap) rfl
  have hb1 := hide1 ((Kept.low ((Kept.refl w).alloc _ _) HN.out).trans hb1')
  have hsz : w.heap.size ≤ w1.heap.size := hb1.out.size
  have ht1 := hide1 ht1'
  have hr1 := hide1 hr1'
  have hl1 := hide1 hl1'
  have hm1 := hide1 hm1'
  have HV1 := hide1 (low_list HV.out hb1.out HS'.out)
  have HG := hide1 hg
  clear hoth hsb hgv ht1' hr1' hl1' hm1' hb1' hg
  go_wp2_with fail
  refine (new_any (Up S1 w1.heap.size) _ _ xs _ (hr1.out.list hm1.out.1 HY.out (by omega)) (Open.up S1 w1) hn).mono ?_
  rintro e w2 ⟨r2, rfl, hk2', hp2'⟩
  obtain ⟨b2, rfl⟩ := hp2'.form
  have hk2 := hide1 hk2'
  have hp2 := hide1 hp2'
  have E4 := grown_cell hk2' D4
  clear hk2' hp2'
  go_wp2_with fail
  refine (rnew_in (Up S1 w1.heap.size) S' _ xs _ (HV1.out.kept hk2.out) ((Open.up S1 w1).grown hk2.out) hn).mono ?_
  rintro e w3 ⟨b3, rfl, hk3', hq3'⟩
  have hk3 := hide1 (gtrans hk2.out hk3')
  have hp3 := hide1 (hp2.out.kept hk3')
  have hq3 := hide1 hq3'
  have F4 := grown_cell hk3' E4
  clear hk3' hq3' hp2 hk2
  go_wp2_with fail
  refine (back_any S' g m _ xs cs1 _ (hr1.out.kept hk3.out) hl1.out hm1.out (HV1.out.kept hk3.out) hroom (by omega)).mono ?_
  rintro e w4 ⟨rfl, hk4, cs4, hr4, hl4⟩
  obtain ⟨ht4', hs4⟩ := tab_back ht1.out hk3.out hk4 hr4 hl4 HG.out
  have ht4 := hide1 ht4'
  have hp4 := hide1 (hp3.out.mono hs4 (fun _ h => h))
  have hq4 := hide1 (hq3.out.mono hs4 (fun _ h => h))
  have hsz3 := hk3.out.size
  have hb4 := hide1 ((hb1.out.trans (hk3.out.low (by have := HN.out; omega))).trans (hk4.low HG.out (by have := HN.out; omega)))
  have HL4 := hide1 hl4
  have HN4 : Hid (n0 ≤ w4.heap.size) := Nat.le_trans HN.out hb4.out.size
  clear ht4' hs4 hk4 hr4 hl4 ht1 hr1 hl1 hm1 hp3 hq3 D4 E4 F4 HV1
  go_wp2_with fail
  refine (add_yes ht4.out HN4.out (by omega) b2 b3 xs hp4.out hq4.out).mono ?_
  rintro e w5 ⟨rfl, hgrew'⟩
  have hgrew := hide1 hgrew'
  clear hgrew'
  go_wp2
  go_ret
  exact ⟨rfl, cs4, by rw [HL4.out]; omega, hb4.out.trans hgrew.out.1, hgrew.out.2⟩

end Rope
end Go.Proofs.Ythjagnnbhpfpoaa
