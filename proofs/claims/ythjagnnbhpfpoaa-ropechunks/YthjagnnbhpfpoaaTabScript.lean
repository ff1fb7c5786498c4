import Derived.Test.YthjagnnbhpfpoaaTabStep
namespace Go.Proofs.Ythjagnnbhpfpoaa
open Go.RowKit
attribute [local go_sem] Oper.semAt_some
namespace Rope

/-- A script that came in: its steps' cells. -/
def StepAt (w : World) (n0 c o : Nat) (kd rr aa bb : Int) (d : Value) (ds : List Int) : Prop :=
  w.cell? ⟨c, o, none⟩ = some (.int .i64 kd) ∧ w.cell? ⟨c, o + 1, none⟩ = some (.int .i64 rr) ∧ w.cell? ⟨c, o + 2, none⟩ = some (.int .i64 aa) ∧ w.cell? ⟨c, o + 3, none⟩ = some (.int .i64 bb) ∧ w.cell? ⟨c, o + 4, none⟩ = some d ∧
  ListAt (fun b => b < n0) w d ds ∧ ds.length ≤ 140737488351232 ∧ bb ≤ 9223372036854775807
def Script (w : World) (n0 : Nat) (a : Option Addr) (n : Nat) : Prop :=
  ∀ i, i < n → ∃ c o kd rr aa bb d ds, a = some ⟨c, o, none⟩ ∧ c < n0 ∧ StepAt w n0 c (o + i * 5) kd rr aa bb d ds

theorem low_cell {n0 : Nat} {w w' : World} (h : Below n0 w w') {b o : Nat} {v : Value} (hb : b < n0) (hc : w.cell? ⟨b, o, none⟩ = some v) : w'.cell? ⟨b, o, none⟩ = some v := by
  rw [World.cell?_of_block (w := w) (a := ⟨b, o, none⟩) (h.block b hb)]; exact hc
theorem StepAt.low {n0 c o : Nat} {w w' : World} {kd rr aa bb : Int} {d : Value} {ds : List Int} (h : StepAt w n0 c o kd rr aa bb d ds) (hb : Below n0 w w') (hc : c < n0) : StepAt w' n0 c o kd rr aa bb d ds := by
  obtain ⟨h0, h1, h2, h3, h4, h5, h6⟩ := h
  exact ⟨low_cell hb hc h0, low_cell hb hc h1, low_cell hb hc h2, low_cell hb hc h3, low_cell hb hc h4, low_list h5 hb (fun _ h => h), h6⟩
theorem Script.low {n0 n : Nat} {w w' : World} {a : Option Addr} (h : Script w n0 a n) (hb : Below n0 w w') : Script w' n0 a n := by
  intro i hi
  obtain ⟨c, o, kd, rr, aa, bb, d, ds, h1, h2, h3⟩ := h i hi
  exact ⟨c, o, kd, rr, aa, bb, d, ds, h1, h2, h3.low hb h2⟩

theorem tab_new (n0 : Nat) (w w1 : World) (hk : Kept w w1) (hn : n0 ≤ w.heap.size) : Grew n0 w w1.heap.size [] [] (w1.alloc (.cells #[.slice none 0 0, .slice none 0 0, .slice none 0 0] 50)) := by
  have hk2 : Kept w (w1.alloc (.cells #[.slice none 0 0, .slice none 0 0, .slice none 0 0] 50)) := hk.alloc _ _
  refine ⟨hk2.low hn, Nat.le_trans hn hk2.size, fun _ => False, .slice none 0 0, .slice none 0 0, .slice none 0 0, [], [], Nat.le_trans hn hk.size, fun o => World.frozen?_alloc_new w1 _ _ o, box_cell rfl 0 _ rfl, box_cell rfl 1 _ rfl, box_cell rfl 2 _ rfl, World.ownsRow_nil _ _ _ _, World.ownsRow_nil _ _ _ _, .inl ⟨rfl, rfl⟩, ⟨fun h => h, fun g hg => ?_, fun g hg => ?_, fun g hg => ?_⟩, fun i xs hi => ?_, fun i xs hi => ?_⟩
  · cases hg
  · cases hg
  · cases hg
  · simp at hi
  · simp at hi

theorem bytes_tells (S : Nat → Prop) (r : Value) (xs : List Int) (w : World) (h : RopeAt S w r xs) :
    Calls Try.prog 31 #[r] w fun e w' => ∃ g cap, e = .returned (.slice (some ⟨g, 0, none⟩) xs.length cap) ∧ Kept w w' ∧ ListAt All w' (.slice (some ⟨g, 0, none⟩) xs.length cap) xs := by
  refine (Bytes_any S r xs w h).mono ?_
  rintro e w' ⟨g, cap, rfl, hk, _, ho⟩
  exact ⟨g, cap, rfl, hk, to_all (ho.list h.byt)⟩

set_option maxRecDepth 100000 in
set_option maxHeartbeats 8000000 in
theorem built_any (n0 : Nat) (a : Option Addr) (n cap : Nat) (w : World) (hs : Script w n0 a n) (hn0 : n0 ≤ w.heap.size) (hn : n ≤ 140737488351232) :
    Calls Try.prog 26 #[.slice a n cap] w fun e w' => ∃ bP bR xs S, e = .returned (.tuple #[.pointer (some ⟨bP, 0, none⟩), .pointer (some ⟨bR, 0, none⟩), .bool true]) ∧ Hid (Below n0 w w') ∧ Hid (n0 ≤ w'.heap.size) ∧ Hid (RopeAt S w' (.pointer (some ⟨bP, 0, none⟩)) xs) ∧ Hid (RefAt S w' (.pointer (some ⟨bR, 0, none⟩)) xs) := by
  have HS := hide1 hs
  have gn : (n : Int) ≤ 140737488351232 := by omega
  have HN := hide1 hn0
  have HG := hide1 (tab_new n0 w w (Kept.refl w) hn0)
  clear hs hn hn0
  go_enter Try.func26, Try.ntmps26
  go_wp2_with fail
  obtain ⟨hb1, hn1, S1, vP1, vR1, vB1, ps1, rs1, ht1⟩ := HG.out
  refine (make_new ht1 hn1 (by decide) (by simp) (fun _ => False) 0 0 0 (.slice none 0 0) [] (.inl ⟨rfl, _, _, rfl⟩) (fun _ h => h.elim) (by simp)).mono ?_
  rintro e w2 ⟨rfl, cs2, hc2, hg2⟩
  have HG2 : Hid (Grew n0 w w.heap.size [[]] cs2 w2) := ⟨hb1.trans hg2.1, hg2.2⟩
  have HC2 := hide1 hc2
  obtain ⟨aP, cP, c0⟩ : ∃ aP cP, w2.cell? ⟨w.heap.size, 0, none⟩ = some (.slice aP 1 cP) := by
    obtain ⟨_, _, S, vP, vR, vB, ps, rs, ht⟩ := HG2.out
    obtain ⟨aP, cP, e⟩ := owns_form ht.ownsP
    exact ⟨aP, cP, by rw [ht.cellP, e]; rfl⟩
  clear hb1 hn1 ht1 hc2 hg2 HG
  go_wp2_with fail
  go_loopw [6] (fun i wr => ∃ (j : Nat) (L : List (List Int)) (cs : List Value), i = .int .i64 (j : Int) ∧ j ≤ n ∧ Hid (Grew n0 w w.heap.size L cs wr) ∧ Hid (L.length ≤ 300) ∧ Hid (cs.length ≤ 281474976710656) ∧ Hid (0 < L.length)) (fun i _ => n - (intOf i).toNat)
  case atStart => exact ⟨0, [[]], cs2, rfl, Nat.zero_le _, HG2, by show _ ≤ _; simp, HC2, by show _ < _; simp⟩
  case round =>
    obtain ⟨j, L, cs, rfl, hj, hg, hl, hc, hp⟩ := hrel
    clear c0 HG2 HC2
    by_cases hlt : (j : Int) < (n : Int)
    · obtain ⟨c, o, kd, rr, aa, bb, d, ds, rfl, hcn, hst⟩ := HS.out.low hg.out.1 j (by omega)
      obtain ⟨d0, d1, d2, d3, d4, d5, d6, d7⟩ := hst
      obtain ⟨da, dc, rfl⟩ := lform d5
      have D5 := hide1 d5
      have D6 := hide1 d6
      have D7 := hide1 d7
      clear d5 d6 d7
      by_cases hkd : kd ≤ 4
      · go_wp2_with fail
        obtain ⟨hb, hnn, S, vP, vR, vB, ps, rs, ht⟩ := hg.out
        refine (step_any ht hnn hl.out hc.out (fun b => b < n0) kd rr aa bb _ ds D5.out (fun _ h => h) D6.out D7.out).mono ?_
        rintro e w3 ⟨L', hgo, rfl, cs', hc', hg'⟩
        have HG3 : Hid (Grew n0 w w.heap.size L' cs' w3) := ⟨hb.trans hg'.1, hg'.2⟩
        have HL3 := hide1 (hgo.room hl.out)
        have HP3 := hide1 (hgo.some hp.out)
        have HC3 := hide1 hc'
        clear hb hnn ht hgo hc' hg' d0 d1 d2 d3 d4
        go_wp2
        go_roundw
        case rel => exact ⟨j + 1, L', cs', by go_num, by omega, HG3, HL3, HC3, HP3⟩
        case measure => simp [intOf]; omega
      · go_wp2
        go_roundw
        case rel => exact ⟨j + 1, L, cs, by go_num, by omega, hg, hl, hc, hp⟩
        case measure => simp [intOf]; omega
    · obtain ⟨hb, hnn, S, vP, vR, vB, ps, rs, ht⟩ := hg.out
      obtain ⟨m, hm⟩ : ∃ m, L.length = m + 1 := ⟨L.length - 1, by have := hp.out; omega⟩
      obtain ⟨xs, hxs⟩ : ∃ xs, L[m]? = some xs := ⟨_, List.getElem?_eq_getElem (by omega)⟩
      obtain ⟨gP, cP', bP, rfl, hcP, dP, hrP⟩ := ht.atP hxs
      obtain ⟨gR, cR, bR, rfl, hcR, dR, hrR⟩ := ht.atR hxs
      have c0 := ht.cellP
      have c1 := ht.cellR
      rw [hm] at c0 c1 hcP hcR
      have gm : (m : Int) < 300 := by have := hl.out; omega
      have HrP := hide1 hrP
      have HrR := hide1 hrR
      have HB := hide1 hb
      have HNN := hide1 hnn
      clear hrP hrR hb hnn ht hg hxs hl hc hp hm
      go_wp2_with fail
      go_region
      all_goals
        go_wp2
        go_ret3
        exact ⟨bP, bR, xs, S, rfl, HB.out.drew, HNN.out, HrP.out.kept (drew_kept wr), HrR.out.kept (drew_kept wr)⟩

end Rope
end Go.Proofs.Ythjagnnbhpfpoaa
