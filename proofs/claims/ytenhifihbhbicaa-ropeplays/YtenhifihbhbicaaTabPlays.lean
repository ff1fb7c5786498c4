import Derived.Test.YtenhifihbhbicaaTabWhole
namespace Go.Proofs.Ytenhifihbhbicaa
open Go.RowKit
attribute [local go_sem] Oper.semAt_some
namespace Rope

/-- A script that came in: its steps' cells. -/
def StepAt (w : World) (n0 c o : Nat) (kd rr aa bb : Int) (d : Value) (ds : List Int) : Prop :=
  w.cell? ⟨c, o, none⟩ = some (.int .i64 kd) ∧ w.cell? ⟨c, o + 1, none⟩ = some (.int .i64 rr) ∧ w.cell? ⟨c, o + 2, none⟩ = some (.int .i64 aa) ∧ w.cell? ⟨c, o + 3, none⟩ = some (.int .i64 bb) ∧ w.cell? ⟨c, o + 4, none⟩ = some d ∧
  ListAt (fun b => b < n0) w d ds ∧ ds.length ≤ 140737488351232 ∧ bb ≤ 9223372036854775807
def Script (w : World) (n0 : Nat) (a : Option Addr) (n : Nat) : Prop :=
  ∀ i, i < n → ∃ c o kd rr aa bb d ds, a = some ⟨c, o, none⟩ ∧ c < n0 ∧ StepAt w n0 c (o + i * 5) kd rr aa bb d ds

theorem low_cell {n0 : Nat} {w w' : World} (h : Below n0 w w') {b o : Nat} {v : Value} (hb : b < n0) (hc : w.cell? ⟨b, o, none⟩ = some v) : w'.cell? ⟨b, o, none⟩ = some v := by
  rw [World.cell?_of_block (w := w) (a := ⟨b, o, none⟩) (h.block b hb)]; exact hc
theorem StepAt.low {n0 c o : Nat} {w w' : World} {kd rr aa bb : Int} {d : Value} {ds : List Int} (h : StepAt w n0 c o kd rr aa bb d ds) (hb : Below n0 w w') (hc : c < n0) : StepAt w' n0 c o kd rr aa bb d ds := by
  obtain ⟨h0, h1, h2, h3, h4, h5, h6⟩ := h
  exact ⟨low_cell hb hc h0, low_cell hb hc h1, low_cell hb hc h2, low_cell hb hc h3, low_cell hb hc h4, low_list h5 hb (fun _ h => h), h6⟩
theorem Script.low {n0 n : Nat} {w w' : World} {a : Option Addr} (h : Script w n0 a n) (hb : Below n0 w w') : Script w' n0 a n := by
  intro i hi
  obtain ⟨c, o, kd, rr, aa, bb, d, ds, h1, h2, h3⟩ := h i hi
  exact ⟨c, o, kd, rr, aa, bb, d, ds, h1, h2, h3.low hb h2⟩

theorem tab_new (n0 : Nat) (w w1 : World) (hk : Kept w w1) (hn : n0 ≤ w.heap.size) : Grew n0 w w1.heap.size [] [] (w1.alloc (.cells #[.slice none 0 0, .slice none 0 0, .slice none 0 0] 50)) := by
  have hk2 : Kept w (w1.alloc (.cells #[.slice none 0 0, .slice none 0 0, .slice none 0 0] 50)) := hk.alloc _ _
  refine ⟨hk2.low hn, Nat.le_trans hn hk2.size, fun _ => False, .slice none 0 0, .slice none 0 0, .slice none 0 0, [], [], Nat.le_trans hn hk.size, fun o => World.frozen?_alloc_new w1 _ _ o, box_cell rfl 0 _ rfl, box_cell rfl 1 _ rfl, box_cell rfl 2 _ rfl, World.ownsRow_nil _ _ _ _, World.ownsRow_nil _ _ _ _, .inl ⟨rfl, rfl⟩, ⟨fun h => h, fun g hg => ?_, fun g hg => ?_, fun g hg => ?_⟩, fun i xs hi => ?_, fun i xs hi => ?_⟩
  · cases hg
  · cases hg
  · cases hg
  · simp at hi
  · simp at hi

set_option maxRecDepth 100000 in
set_option maxHeartbeats 8000000 in
theorem plays_any (a : Option Addr) (n cap : Nat) (w : World) (hs : Script w w.heap.size a n) (hn : n ≤ 140737488351232) :
    Calls Try.prog 6 #[.slice a n cap] w fun e w' => e = .returned (.bool true) ∧ Below w.heap.size w w' := by
  have HS := hide1 hs
  have gn : (n : Int) ≤ 140737488351232 := by omega
  obtain ⟨n0, hn0⟩ : ∃ n0, w.heap.size = n0 := ⟨_, rfl⟩
  rw [hn0] at HS ⊢
  have HN := hide1 hn0
  clear hs hn hn0
  go_enter Try.func6, Try.ntmps6
  go_wp2_with fail
  refine (head_any _).mono ?_
  rintro e w1 ⟨rfl, hk1⟩
  have HG := hide1 (tab_new n0 w w1 hk1 (by rw [HN.out]; exact Nat.le_refl _))
  clear hk1
  go_wp2_with fail
  go_loopw [4] (fun i wr => ∃ (j : Nat) (L : List (List Int)) (cs : List Value), i = .int .i64 (j : Int) ∧ j ≤ n ∧ Hid (Grew n0 w w1.heap.size L cs wr) ∧ Hid (L.length ≤ 300) ∧ Hid (cs.length ≤ 281474976710656)) (fun i _ => n - (intOf i).toNat)
  case atStart => exact ⟨0, [], [], rfl, Nat.zero_le _, HG, by show _ ≤ _; simp, by show _ ≤ _; simp⟩
  case round =>
    obtain ⟨j, L, cs, rfl, hj, hg, hl, hc⟩ := hrel
    by_cases hlt : (j : Int) < (n : Int)
    · obtain ⟨c, o, kd, rr, aa, bb, d, ds, rfl, hcn, hst⟩ := HS.out.low hg.out.1 j (by omega)
      obtain ⟨d0, d1, d2, d3, d4, d5, d6, d7⟩ := hst
      obtain ⟨da, dc, rfl⟩ := lform d5
      have D5 := hide1 d5
      have D6 := hide1 d6
      have D7 := hide1 d7
      clear d5 d6 d7
      go_wp2_with fail
      obtain ⟨hb, hnn, S, vP, vR, vB, ps, rs, ht⟩ := hg.out
      refine (step_any ht hnn hl.out hc.out (fun b => b < n0) kd rr aa bb _ ds D5.out (fun _ h => h) D6.out D7.out).mono ?_
      rintro e w2 ⟨L', hgo, rfl, cs', hc', hg'⟩
      have HG2 : Hid (Grew n0 w w1.heap.size L' cs' w2) := ⟨hb.trans hg'.1, hg'.2⟩
      have HL2 := hide1 (hgo.room hl.out)
      have HC2 := hide1 hc'
      clear hb hnn ht hgo hc' hg' d0 d1 d2 d3 d4
      go_wp2
      go_roundw
      case rel => exact ⟨j + 1, L', cs', by go_num, by omega, HG2, HL2, HC2⟩
      case measure => simp [intOf]; omega
    · go_wp2_with fail
      obtain ⟨hb, hnn, S, vP, vR, vB, ps, rs, ht⟩ := hg.out
      refine (whole_any ht (by have := hl.out; omega)).mono ?_
      rintro e w2 ⟨rfl, hk2⟩
      have HB := hide1 (hb.trans (hk2.low hnn))
      clear hk2 hb ht
      go_wp2
      go_ret
      exact ⟨rfl, HB.out⟩

end Rope
end Go.Proofs.Ytenhifihbhbicaa
