import Derived.Test.YtfajoknacfjedaaGreatDoorMExLy4
import Derived.RangeFuncNested
import Derived.RangeFuncBound
import Derived.RangeFuncCalls
import Derived.RangeFuncLeaves
import Derived.RangeFuncWrites
import Derived.TacticsIn
import Derived.RegionIn
import Derived.LoopIn
import Derived.TacticsInMore
namespace Go.Proofs.YtfajoknacfjedaaGreatDoor
open Go.RowKit
attribute [local go_sem] Oper.semAt_some
namespace Ex

/-- The other alternatives. -/
def altL {n : Nat} (F : PatN (n + 1) → Nat → St → Nat × St) : List (PatN (n + 1)) → Nat → Nat → St → Nat × St
  | [], first, _, st => (first, st)
  | q :: l, first, next, st => altL F l (4097 + (F q next st).2.2.length) next ((F q next st).2.1, (F q next st).2.2 ++ [(first, (F q next st).1)])
theorem alt_grows {n : Nat} {F : PatN (n + 1) → Nat → St → Nat × St} : ∀ (l : List (PatN (n + 1))), (∀ q ∈ l, GrowsL (F q)) → ∀ first, GrowsL (altL F l first)
  | [], _, _, _, _ => ⟨Nat.le_refl _, Nat.le_refl _⟩
  | q :: l, h, first, next, st => by
    have h1 := h q (by simp) next st
    have h2 := alt_grows l (fun q hq => h q (by simp [hq])) (4097 + (F q next st).2.2.length) next ((F q next st).2.1, (F q next st).2.2 ++ [(first, (F q next st).1)])
    simp only [List.length_append, List.length_singleton] at h2
    unfold altL
    exact ⟨Nat.le_trans h1.1 h2.1, by omega⟩
/-- The loop over the other alternatives. -/
def AltR {n : Nat} (X : Nat → Prop) (nb : Nat) (F : PatN (n + 1) → Nat → St → Nat × St) (l : List (PatN (n + 1))) (nx next : Nat) (s : St) (W0 : World) (vf vi : Value) (wr : World) : Prop :=
  ∃ (j f : Nat) (s' : St), vi = .int .i64 (j : Int) ∧ vf = .int .i64 (f : Int) ∧ j ≤ l.length ∧ altL F l nx next s = altL F (l.drop j) f next s' ∧ NetL X wr nb s'.1 s'.2 ∧ XKept X W0 wr
def altsL {n : Nat} (F : PatN (n + 1) → Nat → St → Nat × St) (q : PatN (n + 1)) (l : List (PatN (n + 1))) (next : Nat) (st : St) : Nat × St := altL F l (F q next st).1 next (F q next st).2

set_option linter.unusedSimpArgs false in
set_option maxRecDepth 100000 in
set_option maxHeartbeats 4000000 in
theorem lay_alts (n : Nat) (p : PatN (n + 1 + 1)) (q : PatN (n + 1)) (l : List (PatN (n + 1))) (hq : kids p = q :: l) (hl1 : 1 ≤ l.length) (hkd : kind p = 3) (F : PatN (n + 1) → Nat → St → Nat × St) (hF : ∀ r ∈ kids p, LayC n r (F r)) (hG : ∀ r ∈ kids p, GrowsL (F r)) : LayC (n + 1) p (altsL F q l) := by
  intro X nb next st vk w h hk hX h1 h2
  obtain ⟨⟨nx, s⟩, hr⟩ : ∃ r, F q next st = r := ⟨_, rfl⟩
  have hE : altsL F q l next st = altL F l nx next s := by unfold altsL; rw [hr]
  rw [hE] at h1 h2 ⊢
  have hlg := alt_grows l (fun r hr => hG r (by rw [hq]; simp [hr])) nx next s
  have HL := hide1 hF
  have HGR := hide1 hG
  have HN := hide1 h
  have HX := hide1 hX
  have HKP := hide1 hk
  have HQ := hide1 hq
  have HKD := hide1 hkd
  have HR := hide1 hr
  have hnb := h.lt
  have H1 := hide1 h1
  have H2 := hide1 h2
  have HLG := hide1 hlg
  have HLq := hide1 (hF q (by rw [hq]; simp))
  rw [hq] at hk
  obtain ⟨a2, cap2, e2', hc2, hl2, h7⟩ := hk
  subst e2'
  rcases h7 with h7 | ⟨c, o, rfl, hXc, h7⟩
  · simp at h7
  obtain ⟨u, g0, g1, g2, g3, g4, g5, g6⟩ := h7 0 q rfl
  obtain ⟨a3, cap3, rfl⟩ := g6.form
  have HG6 := hide1 g6
  simp only [Nat.zero_mul, Nat.add_zero] at g0 g1 g2 g3 g4 g5
  have HXC := hide1 hXc
  have H7 := hide1 h7
  simp only [List.length_cons] at hc2
  have hcn : ¬ cap2 = 1 := by omega
  have hl3 : (l.length : Int) ≤ 17592186044416 := by simp only [List.length_cons] at hl2; omega
  clear hl2
  have HLL := hide1 hl1
  clear hl1
  rw [valOf_eq, hkd]
  clear hX hF h hG h1 h2 hq hr hkd hlg hE h7 g6 hXc
  go_enter Tryz.func62, Tryz.ntmps62
  go_wp2_with fail
  obtain ⟨W0, hW0⟩ : ∃ W0, ((w.alloc (Obj.cells #[Value.pointer (some ⟨nb, 0, none⟩)] 73)).alloc (Obj.cells #[Value.int IntKind.i64 3, Value.int IntKind.i64 (from_ p), Value.int IntKind.i64 (to_ p), Value.int IntKind.i64 (min_ p), Value.int IntKind.i64 (max_ p), Value.slice (some ⟨c, o, none⟩) (l.length + 1) cap2] 24)).alloc (Obj.cells #[Value.int IntKind.i64 (next : Int)] 3) = W0 := ⟨_, rfl⟩
  have hk0 : Kept w W0 := by rw [← hW0]; exact (((Kept.refl w).alloc _ _).alloc _ _).alloc _ _
  have hs0 : w.heap.size + 3 = W0.heap.size := by rw [← hW0]; simp
  have b0 : W0.cell? ⟨w.heap.size, 0, none⟩ = some (.pointer (some ⟨nb, 0, none⟩)) := by rw [← hW0]; exact cell_of_row _ _ _ _ _ _ ((heap_alloc_old _ _ (by simp; omega)).trans ((heap_alloc_old _ _ (by simp)).trans (heap_alloc_new w _)))
  have b1 : W0.cell? ⟨w.heap.size + 1, 5, none⟩ = some (.slice (some ⟨c, o, none⟩) (l.length + 1) cap2) := by rw [← hW0]; exact cell_of_row _ _ _ _ _ _ ((heap_alloc_old _ _ (by simp)).trans (heap_alloc2_new w _ _))
  have b2 : W0.cell? ⟨w.heap.size + 2, 0, none⟩ = some (.int .i64 (next : Int)) := by rw [← hW0]; have := heap_alloc_new ((w.alloc (Obj.cells #[Value.pointer (some ⟨nb, 0, none⟩)] 73)).alloc (Obj.cells #[Value.int IntKind.i64 3, Value.int IntKind.i64 (from_ p), Value.int IntKind.i64 (to_ p), Value.int IntKind.i64 (min_ p), Value.int IntKind.i64 (max_ p), Value.slice (some ⟨c, o, none⟩) (l.length + 1) cap2] 24)) (Obj.cells #[Value.int IntKind.i64 (next : Int)] 3); have e : ((w.alloc (Obj.cells #[Value.pointer (some ⟨nb, 0, none⟩)] 73)).alloc (Obj.cells #[Value.int IntKind.i64 3, Value.int IntKind.i64 (from_ p), Value.int IntKind.i64 (to_ p), Value.int IntKind.i64 (min_ p), Value.int IntKind.i64 (max_ p), Value.slice (some ⟨c, o, none⟩) (l.length + 1) cap2] 24)).heap.size = w.heap.size + 2 := (by simp); rw [e] at this; exact cell_of_row _ _ _ _ _ _ this
  rw [hW0]
  clear hW0
  have e0 := grown_cell hk0 g0
  have e1 := grown_cell hk0 g1
  have e2 := grown_cell hk0 g2
  have e3 := grown_cell hk0 g3
  have e4 := grown_cell hk0 g4
  have e5 := grown_cell hk0 g5
  have HK0 := hide1 hk0
  have HNX : Hid (NetL (fun d => X d ∨ (w.heap.size ≤ d ∧ d < w.heap.size + 3)) W0 nb st.1 st.2) := (HN.out.keep hk0).sub (fun d hd => by rcases hd with hd | hd; exact .inl hd; exact .inr (by omega))
  have HXX : Hid (∀ d, (X d ∨ (w.heap.size ≤ d ∧ d < w.heap.size + 3)) → d < W0.heap.size ∧ d ≠ nb) := fun d hd => by rcases hd with hd | hd; (have := HX.out d hd; exact ⟨by omega, this.2⟩); exact ⟨by omega, by omega⟩
  have HKQ : Hid (KidsAt (fun d => X d ∨ (w.heap.size ≤ d ∧ d < w.heap.size + 3)) W0 n (kids q) (.slice a3 (kids q).length cap3)) := KidsAt.mono (fun d o v hd hcc => grown_cell hk0 hcc) (fun d hd => Or.inl hd) _ _ _ HG6.out
  have HS0 := hide1 hs0
  clear hk0 hs0
  have gc : (1 : Int) ≤ (cap2 : Int) := by omega
  have gl : (0 : Int) < (l.length : Int) + 1 := by omega
  go_region_held3 (fun w' => w'.cell? ⟨w.heap.size, 0, none⟩ = some (.pointer (some ⟨nb, 0, none⟩)) ∧ w'.cell? ⟨w.heap.size + 1, 5, none⟩ = some (.slice (some ⟨c, o, none⟩) (l.length + 1) cap2) ∧ w'.cell? ⟨w.heap.size + 2, 0, none⟩ = some (.int .i64 (next : Int)) ∧ w'.cell? ⟨c, o, none⟩ = some (.int .i64 (kind q)) ∧ w'.cell? ⟨c, o + 1, none⟩ = some (.int .i64 (from_ q)) ∧ w'.cell? ⟨c, o + 2, none⟩ = some (.int .i64 (to_ q)) ∧ w'.cell? ⟨c, o + 3, none⟩ = some (.int .i64 (min_ q)) ∧ w'.cell? ⟨c, o + 4, none⟩ = some (.int .i64 (max_ q)) ∧ w'.cell? ⟨c, o + 5, none⟩ = some (.slice a3 (kids q).length cap3)) (first | exact ⟨by with_reducible assumption, by with_reducible assumption, by with_reducible assumption, by with_reducible assumption, by with_reducible assumption, by with_reducible assumption, by with_reducible assumption, by with_reducible assumption, by with_reducible assumption⟩ | go_keep)
    ((go_at_call 62; refine (LayC.at HLq.out (fun d => X d ∨ (w.heap.size ≤ d ∧ d < w.heap.size + 3)) nb next _ st _ _ rfl (by exact HNX.out) (HKQ.out.kept (drew_kept _)) (by exact HXX.out) (by rw [HR.out]; exact Nat.le_trans HLG.out.1 H1.out) (by rw [HR.out]; exact Nat.le_trans HLG.out.2 H2.out)).mono ?_; rintro e w9 ⟨rfl, hn9, hk9⟩; rw [HR.out] at hn9; have HN9 := hide1 hn9; have HK9 := hide1 hk9; have j0 := hk9.cell (.inr (by omega)) b0; have j1 := hk9.cell (.inr (by omega)) b1; have j2 := hk9.cell (.inr (by omega)) b2; have l0 := hk9.cell (.inl HXC.out) e0; have l1 := hk9.cell (.inl HXC.out) e1; have l2 := hk9.cell (.inl HXC.out) e2; have l3 := hk9.cell (.inl HXC.out) e3; have l4 := hk9.cell (.inl HXC.out) e4; have l5 := hk9.cell (.inl HXC.out) e5; clear hn9 hk9))
  rw [HR.out]
  have HXW : Hid (XKept (fun d => X d ∨ (w.heap.size ≤ d ∧ d < w.heap.size + 3)) W0 w9) := HK9.out
  clear HK9 j1 l0 l1 l2 l3 l4 l5
  go_wp2_with fail
  go_loopw [7, 52] (fun vf vi wr => AltR (fun d => X d ∨ (w.heap.size ≤ d ∧ d < w.heap.size + 3)) nb F l nx next s W0 vf vi wr) (fun _ vi _ => l.length - (intOf vi).toNat)
  case atStart => exact ⟨0, nx, s, rfl, rfl, Nat.zero_le _, rfl, HN9.out, HXW.out⟩
  case round =>
    obtain ⟨j, f, s', rfl, rfl, hj, hM, hN, hkx⟩ := hrel
    have HM := hide1 hM
    have HN1 := hide1 hN
    have HKX := hide1 hkx
    have p0 := hkx.cell (.inr (by omega)) b0
    have p2 := hkx.cell (.inr (by omega)) b2
    clear hM hN hkx
    by_cases hlt : (j : Int) < (l.length : Int)
    · have hlt' : j < l.length := by omega
      obtain ⟨r, hr⟩ : ∃ r, l[j]? = some r := ⟨_, List.getElem?_eq_getElem hlt'⟩
      have HRJ := hide1 hr
      have HLT := hide1 hlt'
      have hd : l.drop j = r :: l.drop (j + 1) := by rw [List.drop_eq_getElem_cons hlt']; congr 1; exact Option.some.inj ((List.getElem?_eq_getElem hlt').symm.trans hr)
      obtain ⟨⟨fx, fs⟩, hfx⟩ : ∃ z, F r next s' = z := ⟨_, rfl⟩
      have HFX := hide1 hfx
      have HM2 : Hid (altL F l nx next s = altL F (l.drop (j + 1)) (4097 + fs.2.length) next (fs.1, fs.2 ++ [(f, fx)])) := by
        show _ = _
        rw [HM.out, hd]
        rw [altL, hfx]
      have hmem : r ∈ kids p := by rw [HQ.out]; exact List.mem_cons_of_mem _ (List.mem_of_getElem? hr)
      have hb := alt_grows (l.drop (j + 1)) (fun z hz => HGR.out z (by rw [HQ.out]; exact List.mem_cons_of_mem _ (List.mem_of_mem_drop hz))) (4097 + fs.2.length) next (fs.1, fs.2 ++ [(f, fx)])
      rw [← HM2.out] at hb
      have HB : Hid (fs.1.length ≤ 300000 ∧ fs.2.length ≤ 300000) := by
        have k1 := H1.out
        have k2 := H2.out
        simp only [List.length_append, List.length_singleton] at hb
        exact ⟨by omega, by omega⟩
      have HLr := hide1 (HL.out r hmem)
      obtain ⟨ur, y0, y1, y2, y3, y4, y5, y6⟩ := H7.out (j + 1) r (by rw [List.getElem?_cons_succ]; exact hr)
      obtain ⟨ar, cr, rfl⟩ := y6.form
      rw [show o + (j + 1) * 6 = o + 6 + j * 6 by omega] at y0 y1 y2 y3 y4 y5
      have x0 := HKX.out.cell (.inl HXC.out) (grown_cell HK0.out y0)
      have x1 := HKX.out.cell (.inl HXC.out) (grown_cell HK0.out y1)
      have x2 := HKX.out.cell (.inl HXC.out) (grown_cell HK0.out y2)
      have x3 := HKX.out.cell (.inl HXC.out) (grown_cell HK0.out y3)
      have x4 := HKX.out.cell (.inl HXC.out) (grown_cell HK0.out y4)
      have x5 := HKX.out.cell (.inl HXC.out) (grown_cell HK0.out y5)
      have HY6 : Hid (KidsAt (fun d => X d ∨ (w.heap.size ≤ d ∧ d < w.heap.size + 3)) wr n (kids r) (.slice ar (kids r).length cr)) := KidsAt.mono (fun d o v hd hcc => HKX.out.cell (Or.inl hd) (grown_cell HK0.out hcc)) (fun d hd => Or.inl hd) _ _ _ y6
      clear y0 y1 y2 y3 y4 y5 y6 hb hmem hfx hd hr hlt'
      have hsw : w.heap.size + 3 ≤ wr.heap.size := by have := HKX.out.2.2.2.1; have := HS0.out; omega
      have hnw : nb < wr.heap.size := by omega
      have HXX2 : Hid (∀ d, (X d ∨ (w.heap.size ≤ d ∧ d < w.heap.size + 3)) → d < wr.heap.size ∧ d ≠ nb) := fun d hd => by have := HXX.out d hd; have := HKX.out.2.2.2.1; exact ⟨by omega, by omega⟩
      go_wp2_with fail
      obtain ⟨W1, hW1⟩ : ∃ W1, wr.alloc (Obj.cells #[Value.int IntKind.i64 (kind r), Value.int IntKind.i64 (from_ r), Value.int IntKind.i64 (to_ r), Value.int IntKind.i64 (min_ r), Value.int IntKind.i64 (max_ r), Value.slice ar (kids r).length cr] 24) = W1 := ⟨_, rfl⟩
      have HK1 : Hid (Kept wr W1) := by rw [← hW1]; exact (Kept.refl wr).alloc _ _
      have HS1 : Hid (wr.heap.size + 1 = W1.heap.size) := by show _ = _; rw [← hW1]; simp
      have hbx : BoxAt W1 wr.heap.size (.int .i64 (kind r)) (.int .i64 (from_ r)) (.int .i64 (to_ r)) (.int .i64 (min_ r)) (.int .i64 (max_ r)) (.slice ar (kids r).length cr) := by rw [← hW1]; exact BoxAt.new wr _ _ _ _ _ _
      have HNW : Hid (NetL (fun d => (X d ∨ (w.heap.size ≤ d ∧ d < w.heap.size + 3)) ∨ d = wr.heap.size) W1 nb s'.1 s'.2) := by rw [← hW1]; exact HN1.out.box _ _
      rw [hW1]
      clear hW1
      obtain ⟨⟨q0, q1, q2, q3, q4, q5⟩, zz⟩ := hbx.facts
      clear zz hbx
      have k0 := grown_cell HK1.out p0
      have k2 := grown_cell HK1.out p2
      have HY7 : Hid (KidsAt (fun d => (X d ∨ (w.heap.size ≤ d ∧ d < w.heap.size + 3)) ∨ d = wr.heap.size) W1 n (kids r) (.slice ar (kids r).length cr)) := KidsAt.mono (fun d o v hd hcc => grown_cell HK1.out hcc) (fun d hd => Or.inl hd) _ _ _ HY6.out
      have HXX3 : Hid (∀ d, ((X d ∨ (w.heap.size ≤ d ∧ d < w.heap.size + 3)) ∨ d = wr.heap.size) → d < W1.heap.size ∧ d ≠ nb) := fun d hd => by have := HS1.out; rcases hd with hd | hd; (have := HXX2.out d hd; exact ⟨by omega, this.2⟩); exact ⟨by omega, by omega⟩
      clear x0 x1 x2 x3 x4 x5 p0 p2 g0 g1 g2 g3 g4 g5 e0 e1 e2 e3 e4 e5
      go_region_held3 (fun w' => w'.cell? ⟨w.heap.size, 0, none⟩ = some (.pointer (some ⟨nb, 0, none⟩)) ∧ w'.cell? ⟨w.heap.size + 2, 0, none⟩ = some (.int .i64 (next : Int)) ∧ w'.cell? ⟨wr.heap.size, 0, none⟩ = some (.int .i64 (kind r)) ∧ w'.cell? ⟨wr.heap.size, 1, none⟩ = some (.int .i64 (from_ r)) ∧ w'.cell? ⟨wr.heap.size, 2, none⟩ = some (.int .i64 (to_ r)) ∧ w'.cell? ⟨wr.heap.size, 3, none⟩ = some (.int .i64 (min_ r)) ∧ w'.cell? ⟨wr.heap.size, 4, none⟩ = some (.int .i64 (max_ r)) ∧ w'.cell? ⟨wr.heap.size, 5, none⟩ = some (.slice ar (kids r).length cr)) (first | exact ⟨by with_reducible assumption, by with_reducible assumption, by with_reducible assumption, by with_reducible assumption, by with_reducible assumption, by with_reducible assumption, by with_reducible assumption, by with_reducible assumption⟩ | go_keep)
        ((first
          | (go_at_call 62; refine (LayC.at HLr.out (fun d => (X d ∨ (w.heap.size ≤ d ∧ d < w.heap.size + 3)) ∨ d = wr.heap.size) nb next _ s' _ _ rfl (by exact HNW.out) (HY7.out.kept (drew_kept _)) (by exact HXX3.out) (by rw [HFX.out]; exact HB.out.1) (by rw [HFX.out]; exact HB.out.2)).mono ?_; rintro e w5 ⟨rfl, hn5, hk5⟩; rw [HFX.out] at hn5 ⊢; have HN5 := hide1 hn5; have HK5 := hide1 hk5; have m0 := hk5.cell (.inl (.inr (by omega))) k0; have m2 := hk5.cell (.inl (.inr (by omega))) k2; have n0 := hk5.cell (.inr rfl) q0; have n1 := hk5.cell (.inr rfl) q1; have n2 := hk5.cell (.inr rfl) q2; have n3 := hk5.cell (.inr rfl) q3; have n4 := hk5.cell (.inr rfl) q4; have n5 := hk5.cell (.inr rfl) q5; clear hn5 hk5)
          | (go_at_call 79; refine (fork_is (fun d => (X d ∨ (w.heap.size ≤ d ∧ d < w.heap.size + 3)) ∨ d = wr.heap.size) nb fs.1 fs.2 f fx _ (by exact HN5.out) (fun d hd => by have h1 := HXX3.out d hd; have h2 := HK5.out.2.2.2.1; exact ⟨Nat.lt_of_lt_of_le h1.1 h2, h1.2⟩) HB.out.2).mono ?_; rintro e w6 ⟨rfl, hn6, hk6⟩; have HN6 := hide1 hn6; have HK6 := hide1 hk6; have r0 := hk6.cell (.inl (.inr (by omega))) m0; have r2 := hk6.cell (.inl (.inr (by omega))) m2; have t0 := hk6.cell (.inr rfl) n0; have t1 := hk6.cell (.inr rfl) n1; have t2 := hk6.cell (.inr rfl) n2; have t3 := hk6.cell (.inr rfl) n3; have t4 := hk6.cell (.inr rfl) n4; have t5 := hk6.cell (.inr rfl) n5; clear hn6 hk6)))
      go_wp2_with fail
      go_roundw
      case rel => exact ⟨j + 1, 4097 + fs.2.length, (fs.1, fs.2 ++ [(f, fx)]), by go_num, rfl, HLT.out, HM2.out, HN6.out.sub (fun d hd => .inl hd), HKX.out.trans ((HK1.out.x (fun d hd => (HXX2.out d hd).1)).trans ((HK5.out.trans HK6.out).sub (fun d hd => .inl hd)))⟩
      case measure => have := HLT.out; simp [intOf]; omega
    · have HE : Hid (altL F l nx next s = (f, s')) := by
        show _ = _
        rw [HM.out, List.drop_eq_nil_of_le (by omega)]
        rfl
      go_wp2_with fail
      go_ret
      rw [HE.out]
      refine ⟨rfl, HN1.out.sub (fun d hd => .inl hd), ?_⟩
      exact (HK0.out.x (fun d hd => (HX.out d hd).1)).trans (HKX.out.sub (fun d hd => .inl hd))

end Ex
end Go.Proofs.YtfajoknacfjedaaGreatDoor
namespace Go.Proofs.YtfajoknacfjedaaGreatDoor
open Go.RowKit
namespace Ex

/-- What a world that has only grown keeps. -/
def Grows {β : Type} (J : β → World → Prop) : Prop := ∀ s A A', J s A → Kept A A' → J s A'
/-- An iterator that reads: it hands over the members of xs, one behind the other; Kp: what a round must keep for it. -/
def SeqC {α : Type} (F : Fence) (n : Nat) (P : Program) (g : Nat) (lb : Array Value) (encs : α → Array Value) (Kp : World → World → Prop) (xs : List α) (w : World) : Prop :=
  ∀ (l : Nat) (J : List α → World → Prop) (W : World), Kp w W → Grows J →
    (∀ pre x W1, J pre W1 → (pre ++ [x]) <+: xs → YieldAt F (n - 1) P l (encs x) W1 fun e W' => e = .returned (.bool true) ∧ J (pre ++ [x]) W' ∧ Kp W1 W') →
    J [] W →
    CallsIn F n P g (#[.func (.yield l) #[] #[]] ++ lb) W fun e W' => (∃ v, e = .returned v) ∧ J xs W'

/-- How the body of a round is left. -/
def postC {α : Type} (B : Nat) (Kp : World → World → Prop) (I : List α → World → Prop) (xs : List α) (W : World) : Exit → Act → World → Prop
  | .normal, _, W' => KeepsFrom B W W' ∧ Kp W W' ∧ I xs W'
  | _, _, _ => False

/-- The statement 'range' over such an iterator, whose variable lies in a box that each round makes. -/
theorem range_box {F : Fence} {n : Nat} {P : Program} {α : Type} {g : Operand} {ps : Array Tmp} {assign body : Code} {Q : Exit → Act → World → Prop} {a : Act} {w : World}
    (hro : F.round = none) (h1 : 1 ≤ n) {gf : Nat} {lb : Array Value} (hg : a.eval g = .func (.func gf) #[] lb) (hFg : F.fn gf) (eg : ∀ args w, (callFunc gf args).run P w = .ok (.enter gf args) w)
    {encs : α → Array Value} {Kp : World → World → Prop} {xs : List α} (hseq : SeqC F (n - 1) P gf lb encs Kp xs w)
    (hKt : ∀ {A B C : World}, Kp A B → Kp B C → Kp A C) (hKb : ∀ (W : World) (l : Nat) (o o' : Obj), w.heap.size ≤ l → W.heap[l]? = some o → o.isCells = false → Kp W (W.putObj l o'))
    (hKk : ∀ W W', w.heap.size ≤ W.heap.size → Kept W W' → Kp W W') (hps : ∀ x, (encs x).size = ps.size)
    (I : List α → World → Prop) (hI : Grows I) (hIp : ∀ s W l o o', I s W → w.heap.size ≤ l → W.heap[l]? = some o → o.isCells = false → I s (W.putObj l o')) (h0 : I [] w) (ob : α → Obj) (a₁ : α → Nat → Act)
    (hassign : ∀ (l : Nat) (x : α) (W : World) (K : Act → World → Prop), x ∈ xs → K (a₁ x W.heap.size) (W.alloc (ob x)) →
      assign.wpIn (F.inRound l) (n - 1 - 1) P (Exit.then K (fun _ _ _ => False)) { tmps := (ps.zip (encs x)).foldl (fun t (p, v) => t.setIfInBounds p v) a.tmps, defers := [] } W)
    (hbody : ∀ (l : Nat) (pre : List α) (x : α) (W : World) (m : Nat), I pre W → (pre ++ [x]) <+: xs → W.heap[m]? = some (ob x) → w.heap.size < m → (∀ r : Nat, r = l → r ≠ m) → body.wpIn (F.inRound l) (n - 1 - 1) P (postC w.heap.size Kp I (pre ++ [x]) W) (a₁ x m) W)
    (hdone : ∀ (D : Nat) (W : World), w.heap.size ≤ D → I xs W → W.heap[D]? = some (.deferred (some [])) → Q .normal { a with defers := { target := .collected D, args := #[] } :: a.defers } W) :
    (Code.rangeFunc g ps assign body).wpIn F n P Q a w := by
  refine wpIn_rangeFunc ?_
  intro fn hfn
  rw [hro]
  obtain ⟨rec, hrec⟩ : ∃ rec : LoopState → Option Code → Loop, rec = fun st pe => { state := st, pending := pe, fn, tmps := a.tmps, params := ps, assign, body, defers := w.heap.size } := ⟨_, rfl⟩
  obtain ⟨W1, hW1⟩ : ∃ W1, (w.alloc (.deferred (some []))).alloc (.loop (rec .ready none)) = W1 := ⟨_, rfl⟩
  have hsz : W1.heap.size = w.heap.size + 2 := by rw [← hW1]; simp
  have hkw : Kept w W1 := by
    rw [← hW1]
    refine ⟨rfl, rfl, rfl, by simp; omega, fun k hk => ?_⟩
    exact (Below.heap_alloc _ _ _ (by simp; omega)).trans (Below.heap_alloc _ _ _ hk)
  have hL1 : W1.heap[w.heap.size + 1]? = some (.loop (rec .ready none)) := by
    have := World.alloc_heap_new (w.alloc (.deferred (some []))) (.loop (rec .ready none))
    rw [← hW1]; rwa [World.size_alloc] at this
  have hD1 : W1.heap[w.heap.size]? = some (.deferred (some [])) := by
    rw [← hW1]; exact (Below.heap_alloc _ _ _ (by simp)).trans (World.alloc_heap_new w _)
  refine ⟨w.heap.size + 1, [{ target := .collected w.heap.size, args := #[] }], W1, { target := .fn (.func gf) lb, args := #[.func (.yield (w.heap.size + 1)) #[] #[]] }, W1, gf,
    #[.func (.yield (w.heap.size + 1)) #[] #[]] ++ lb, W1, ?_, ?_, ?_, ?_, fun _ => h1, ?_⟩
  · rw [← hW1, hrec]; exact run_enterLoop_outer _ _ _ _ _
  · simp only [resolve, hg]
    simp [go_sem]
  · intro f' hf'; simp [Target.leads] at hf'; subst hf'; exact hFg
  · simp [invoke, go_sem, eg]
  refine (hseq (w.heap.size + 1)
    (fun pre W => I pre W ∧ W.heap[w.heap.size + 1]? = some (.loop (rec .ready none)) ∧ W.heap[w.heap.size]? = some (.deferred (some [])))
    W1 (hKk _ _ (Nat.le_refl _) hkw) ?_ ?_ ⟨hI _ _ _ h0 hkw, hL1, hD1⟩).mono ?_
  · rintro s A A' ⟨g1, g2, g3⟩ hb
    exact ⟨hI s A A' g1 hb, (hb.2.2.2.2 _ (Array.getElem?_eq_some_iff.1 g2).1).trans g2, (hb.2.2.2.2 _ (Array.getElem?_eq_some_iff.1 g3).1).trans g3⟩
  · rintro pre x W ⟨hi, hl, hk⟩ hpre
    have hlt : w.heap.size + 1 < W.heap.size := (Array.getElem?_eq_some_iff.1 hl).1
    have hy := run_yield (P := P) (args := encs x) hl (by rw [hrec]; exact hps x)
    rw [hrec] at hy
    obtain ⟨Wa, hWa⟩ : ∃ Wa, W.alloc (ob x) = Wa := ⟨_, rfl⟩
    have hka : Kept W Wa := by
      rw [← hWa]
      exact ⟨rfl, rfl, rfl, by simp, fun k hk => Below.heap_alloc _ _ _ hk⟩
    have hma : Wa.heap[W.heap.size]? = some (ob x) := by rw [← hWa]; exact heap_alloc_new W _
    have hla : Wa.heap[w.heap.size + 1]? = some (.loop (rec .ready none)) := (hka.2.2.2.2 _ hlt).trans hl
    have hda : Wa.heap[w.heap.size]? = some (.deferred (some [])) := (hka.2.2.2.2 _ (by omega)).trans hk
    have hlta : w.heap.size + 1 < Wa.heap.size := (Array.getElem?_eq_some_iff.1 hla).1
    refine ⟨fn, _, assign, body, hy, roundIn_of_wpIn hfn (hassign _ x W _ (hpre.subset (by simp)) ⟨_, run_beginRound (by rw [hWa]; exact hla) (by rw [hrec]), ?_⟩)⟩
    rw [hWa]
    obtain ⟨W2, hW2⟩ : ∃ W2, Wa.putObj (w.heap.size + 1) (.loop { rec .ready none with state := .busy }) = W2 := ⟨_, rfl⟩
    have hl2 : W2.heap[w.heap.size + 1]? = some (.loop { rec .ready none with state := .busy }) := by rw [← hW2]; exact World.putObj_heap_same hlta
    have hk2 : W2.heap[w.heap.size]? = some (.deferred (some [])) := by rw [← hW2]; exact (World.putObj_heap_other (by omega)).trans hda
    have hm2 : W2.heap[W.heap.size]? = some (ob x) := by rw [← hW2]; exact (World.putObj_heap_other (by omega)).trans hma
    have hkp2 : Kp W W2 := hKt (hKk _ _ (by omega) hka) (by rw [← hW2]; exact hKb _ _ _ _ (by omega) hla rfl)
    have hi2 : I pre W2 := by rw [← hW2]; exact hIp _ _ _ _ _ (hI _ _ _ hi hka) (by omega) hla rfl
    have hbd := hbody (w.heap.size + 1) pre x W2 W.heap.size hi2 hpre hm2 (by omega) (fun r hr => by omega)
    have fin : ∀ (W3 : World), KeepsFrom w.heap.size W2 W3 →
        (Instr.endRound (w.heap.size + 1) none).run P W3 = .ok (.bool true) (W3.putObj (w.heap.size + 1) (.loop (rec .ready none))) ∧
        W3.heap[w.heap.size + 1]? = some (.loop { rec .ready none with state := .busy }) ∧
        (W3.putObj (w.heap.size + 1) (.loop (rec .ready none))).heap[w.heap.size + 1]? = some (.loop (rec .ready none)) ∧
        (W3.putObj (w.heap.size + 1) (.loop (rec .ready none))).heap[w.heap.size]? = some (.deferred (some [])) := by
      intro W3 hk3
      have hl3 := hk3.same _ _ (by omega) hl2 rfl
      have hr := run_endRound (P := P) none hl3
      rw [hrec] at hr ⊢
      exact ⟨hr, by rw [hrec] at hl3; exact hl3, World.putObj_heap_same (Array.getElem?_eq_some_iff.1 hl3).1, (World.putObj_heap_other (by omega)).trans (hk3.same _ _ (Nat.le_refl _) hk2 rfl)⟩
    rw [hW2]
    refine wpIn_mono hbd ?_
    rintro e a3 W3 hp
    cases e with
    | normal =>
      obtain ⟨hk3, hkp3, hi3⟩ := hp
      obtain ⟨hr, hl3, hl4, hk4⟩ := fin W3 hk3
      exact ⟨_, _, hr, rfl, ⟨hIp _ _ _ _ _ hi3 (by omega) hl3 rfl, hl4, hk4⟩, hKt (hKt hkp2 hkp3) (hKb _ _ _ _ (by omega) hl3 rfl)⟩
    | ret => exact hp.elim
    | exit id => exact hp.elim
    | goto t => exact hp.elim
    | panic ch => exact hp.elim
    | outgrown => exact hp.elim
  · rintro e W2 ⟨⟨v, rfl⟩, hi, hl, hk⟩
    exact ⟨none, _, by have := run_endLoop (P := P) hl (by rw [hrec]; simp); rw [hrec] at this; exact this, hdone _ _ (Nat.le_refl _) (hIp _ _ _ _ _ hi (by omega) hl rfl) ((World.putObj_heap_other (by omega)).trans hk)⟩

end Ex
end Go.Proofs.YtfajoknacfjedaaGreatDoor
namespace Go.Proofs.YtfajoknacfjedaaGreatDoor
open Go.RowKit
attribute [local go_sem] Oper.semAt_some
namespace Ex

/-- The last members, from behind. -/
def dn {α : Type} (el : Nat → α) (len k : Nat) : List α := (((List.range len).drop k).map el).reverse
theorem dn_len {α : Type} (el : Nat → α) (len : Nat) : dn el len len = [] := by simp [dn]
theorem dn_succ {α : Type} (el : Nat → α) {len k : Nat} (h : k < len) : dn el len k = dn el len (k + 1) ++ [el k] := by
  have e : (List.range len).drop k = k :: (List.range len).drop (k + 1) := by
    rw [List.drop_eq_getElem_cons (by simpa using h)]
    simp
  unfold dn
  rw [e]
  simp
theorem dn_prefix {α : Type} (el : Nat → α) (len k : Nat) : dn el len k <+: dn el len 0 := by
  unfold dn
  rw [List.reverse_prefix]
  exact (List.drop_suffix _ _).map _
/-- These blocks lie as they lay. -/
def XK (X : Nat → Prop) (A B : World) : Prop := A.heap.size ≤ B.heap.size ∧ ∀ k, X k → B.heap[k]? = A.heap[k]?
theorem XK.trans {X : Nat → Prop} {A B C : World} (h : XK X A B) (k : XK X B C) : XK X A C := ⟨Nat.le_trans h.1 k.1, fun d hd => (k.2 d hd).trans (h.2 d hd)⟩
theorem XK.cell {X : Nat → Prop} {A B : World} (h : XK X A B) {d o : Nat} {v : Value} (hd : X d) (hc : A.cell? ⟨d, o, none⟩ = some v) : B.cell? ⟨d, o, none⟩ = some v := (World.cell?_of_block (w := A) (a := ⟨d, o, none⟩) (h.2 d hd)).trans hc

/-- The closure's loop. -/
def BkR {m : Nat} (X : Nat → Prop) (len : Nat) (el : Nat → PatN (m + 1) × Value) (J : List (Nat × PatN (m + 1) × Value) → World → Prop) (W : World) (vi : Value) (wr : World) : Prop :=
  ∃ k : Nat, k ≤ len ∧ vi = .int .i64 ((k : Int) - 1) ∧ J (dn (fun i => (i, el i)) len k) wr ∧ XK X W wr

set_option linter.unusedSimpArgs false in
set_option maxRecDepth 100000 in
set_option maxHeartbeats 2000000 in
/-- slices.Backward's closure. -/
theorem back_in (n : Nat) (hn : 1 ≤ n) (m : Nat) (X : Nat → Prop) (l Bs c o cap len : Nat) (el : Nat → PatN (m + 1) × Value) (hlen : len ≤ 17592186044416) (hXb : X Bs) (hXc : X c) (J : List (Nat × PatN (m + 1) × Value) → World → Prop)
    (hY : ∀ pre x W1, J pre W1 → (pre ++ [x]) <+: dn (fun i => (i, el i)) len 0 → YieldAt Fence.wide (n - 1) Tryz.prog l #[.int .i64 (x.1 : Int), valOf x.2.1 x.2.2] W1 fun e W' => e = .returned (.bool true) ∧ J (pre ++ [x]) W' ∧ XK X W1 W')
    (W : World) (hBs : W.cell? ⟨Bs, 0, none⟩ = some (.slice (some ⟨c, o, none⟩) len cap))
    (hc : ∀ i, i < len → W.cell? ⟨c, o + i * 6, none⟩ = some (.int .i64 (kind (el i).1)) ∧ W.cell? ⟨c, o + i * 6 + 1, none⟩ = some (.int .i64 (from_ (el i).1)) ∧ W.cell? ⟨c, o + i * 6 + 2, none⟩ = some (.int .i64 (to_ (el i).1)) ∧ W.cell? ⟨c, o + i * 6 + 3, none⟩ = some (.int .i64 (min_ (el i).1)) ∧ W.cell? ⟨c, o + i * 6 + 4, none⟩ = some (.int .i64 (max_ (el i).1)) ∧ W.cell? ⟨c, o + i * 6 + 5, none⟩ = some (el i).2 ∧ ∃ a z cp, (el i).2 = .slice a z cp) (h0 : J [] W) :
    CallsIn Fence.wide n Tryz.prog 99 #[.func (.yield l) #[] #[], .pointer (some ⟨Bs, 0, none⟩)] W fun e W' => (∃ v, e = .returned v) ∧ J (dn (fun i => (i, el i)) len 0) W' := by
  have HC := hide1 hc
  have HY := hide1 hY
  have HXB := hide1 hXb
  have HXC := hide1 hXc
  have H0 := hide1 h0
  clear hc hY hXb hXc h0
  have hlI : (len : Int) ≤ 17592186044416 := by omega
  refine callsIn_of_wp Tryz.func99 rfl trivial ?_ rfl
  simp only [Tryz.ntmps99, List.size_toArray, List.length_cons, List.length_nil, Nat.reduceAdd, Nat.reduceSub, Array.replicate_succ, Array.replicate_zero, List.push_toArray, List.append_toArray, List.nil_append, List.cons_append]
  gi_wp2
  gi_loopw [3] (fun vi wr => BkR X len el J W vi wr) (fun vi _ => (intOf vi + 1).toNat)
  case atStart => exact ⟨len, Nat.le_refl _, rfl, by rw [dn_len]; exact H0.out, Nat.le_refl _, fun _ _ => rfl⟩
  case round =>
    obtain ⟨k, hk, rfl, hJs, hx⟩ := hrel
    have HJS := hide1 hJs
    have HXK := hide1 hx
    have hb := hx.cell HXB.out hBs
    clear hJs hx
    cases k with
    | zero =>
      have hz : ((0 : Nat) : Int) - 1 = -1 := by omega
      rw [hz]
      gi_wp2
      go_end0
      exact ⟨⟨_, rfl⟩, HJS.out⟩
    | succ k =>
      have hz : ((k + 1 : Nat) : Int) - 1 = (k : Int) := by omega
      rw [hz]
      have HD := hide1 (dn_succ (fun i => (i, el i)) (len := len) (k := k) (by omega))
      obtain ⟨y0, y1, y2, y3, y4, y5, a6, z6, c6, y6⟩ := HC.out k (by omega)
      rw [y6] at y5
      have x0 := HXK.out.cell HXC.out y0
      have x1 := HXK.out.cell HXC.out y1
      have x2 := HXK.out.cell HXC.out y2
      have x3 := HXK.out.cell HXC.out y3
      have x4 := HXK.out.cell HXC.out y4
      have x5 := HXK.out.cell HXC.out y5
      have hq : valOf (el k).1 (el k).2 = .agg #[.int .i64 (kind (el k).1), .int .i64 (from_ (el k).1), .int .i64 (to_ (el k).1), .int .i64 (min_ (el k).1), .int .i64 (max_ (el k).1), .slice a6 z6 c6] := by rw [y6]; rfl
      obtain ⟨fn, tmps, assign, body, hy, hR⟩ := HY.out _ (k, el k) wr HJS.out (by have h1 := HD.out; rw [← h1]; exact dn_prefix _ _ _)
      have HR := hide1 hR
      dsimp only at hy
      rw [hq] at hy
      clear y0 y1 y2 y3 y4 y5 y6 hR hq
      have hkl : (k : Int) < (len : Int) := by omega
      gi_wp2
      refine HR.out.mono ?_
      rintro e W3 ⟨rfl, hJ3, hk3⟩
      have HJ3 := hide1 hJ3
      have HK3 := hide1 hk3
      clear hJ3 hk3
      gi_wp2
      go_roundw
      case rel => exact ⟨k, by omega, by go_num, by have h1 := HD.out; rw [h1]; exact HJ3.out, HXK.out.trans HK3.out⟩
      case measure => simp [intOf]

/-- What the closure does, as the statement range wants it. -/
theorem back_seq (n : Nat) (hn : 1 ≤ n) (m : Nat) (X : Nat → Prop) (Bs c o cap len : Nat) (el : Nat → PatN (m + 1) × Value) (hlen : len ≤ 17592186044416) (hXb : X Bs) (hXc : X c)
    (w : World) (hBs : w.cell? ⟨Bs, 0, none⟩ = some (.slice (some ⟨c, o, none⟩) len cap))
    (hc : ∀ i, i < len → w.cell? ⟨c, o + i * 6, none⟩ = some (.int .i64 (kind (el i).1)) ∧ w.cell? ⟨c, o + i * 6 + 1, none⟩ = some (.int .i64 (from_ (el i).1)) ∧ w.cell? ⟨c, o + i * 6 + 2, none⟩ = some (.int .i64 (to_ (el i).1)) ∧ w.cell? ⟨c, o + i * 6 + 3, none⟩ = some (.int .i64 (min_ (el i).1)) ∧ w.cell? ⟨c, o + i * 6 + 4, none⟩ = some (.int .i64 (max_ (el i).1)) ∧ w.cell? ⟨c, o + i * 6 + 5, none⟩ = some (el i).2 ∧ ∃ a z cp, (el i).2 = .slice a z cp) :
    SeqC Fence.wide n Tryz.prog 99 #[.pointer (some ⟨Bs, 0, none⟩)] (fun x : Nat × PatN (m + 1) × Value => #[.int .i64 (x.1 : Int), valOf x.2.1 x.2.2]) (XK X) (dn (fun i => (i, el i)) len 0) w := fun l J W hW _ hY h0 =>
  back_in n hn m X l Bs c o cap len el hlen hXb hXc J hY W (hW.cell hXb hBs) (fun i hi => by
    obtain ⟨y0, y1, y2, y3, y4, y5, y6⟩ := hc i hi
    exact ⟨hW.cell hXc y0, hW.cell hXc y1, hW.cell hXc y2, hW.cell hXc y3, hW.cell hXc y4, hW.cell hXc y5, y6⟩) h0
theorem back_is (a : Option Addr) (len cap : Nat) (w : World) :
    Calls Tryz.prog 81 #[.slice a len cap] w fun e w' => e = .returned (.func (.func 99) #[] #[.pointer (some ⟨w.heap.size, 0, none⟩)]) ∧ w' = w.alloc (.cells #[.slice a len cap] 22) := by
  go_enter Tryz.func81, Tryz.ntmps81
  go_wp2_with fail
  go_ret
  exact ⟨rfl, rfl⟩

end Ex
end Go.Proofs.YtfajoknacfjedaaGreatDoor
namespace Go.Proofs.YtfajoknacfjedaaGreatDoor
open Go.RowKit
attribute [local go_sem] Oper.semAt_some
namespace Ex

theorem row_block {w : World} {b : Nat} {t : TypeId} {z k : Nat} {v : Value} {xs : List Value} (h : w.ownsRow b t z v k xs) (g : Nat) (hg : v.ownBlock = some g) : ∃ cur, w.heap[g]? = some (.cells cur t (0, 0)) := by
  rcases h.2 with ⟨rfl, _⟩ | ⟨g2, cap, cur, rfl, _, hgb, _⟩
  · simp [Value.ownBlock] at hg
  · simp only [Value.ownBlock, Option.some.injEq] at hg
    subst hg
    exact ⟨cur, hgb⟩
theorem NetL.other {X : Nat → Prop} {w w' : World} {nb : Nat} {ts : List (Int × Int × Nat)} {fs : List (Nat × Nat)} (h : NetL X w nb ts fs) (hX : ∀ d, X d → d ≠ nb) (hk : ∀ k, ¬ X k → w'.heap[k]? = w.heap[k]?) : NetL X w' nb ts fs := by
  obtain ⟨f0, vt, vf, h1, h2, h3, h4, h5⟩ := h
  exact ⟨f0, vt, vf, (hk nb (fun e => hX nb e rfl)).trans h1, owns_kept h2 (fun g hg => hk g (h4 g hg).1), owns_kept h3 (fun g hg => hk g (h5 g hg).1), h4, h5⟩
/-- What is no cells is none of the net's. -/
theorem NetL.more {X : Nat → Prop} {w : World} {nb : Nat} {ts : List (Int × Int × Nat)} {fs : List (Nat × Nat)} (h : NetL X w nb ts fs) : NetL (fun d => X d ∨ ∃ o, w.heap[d]? = some o ∧ o.isCells = false) w nb ts fs ∧ ∀ d o, w.heap[d]? = some o → o.isCells = false → d ≠ nb := by
  obtain ⟨f0, vt, vf, h1, h2, h3, h4, h5⟩ := h
  refine ⟨⟨f0, vt, vf, h1, h2, h3, fun g hg => ⟨fun e => ?_, (h4 g hg).2⟩, fun g hg => ⟨fun e => ?_, (h5 g hg).2⟩⟩, fun d o hd ho e => ?_⟩
  · rcases e with e | ⟨o, e1, e2⟩
    · exact (h4 g hg).1 e
    · obtain ⟨cur, hc⟩ := row_block h2 g hg
      rw [hc] at e1; cases e1; cases e2
  · rcases e with e | ⟨o, e1, e2⟩
    · exact (h5 g hg).1 e
    · obtain ⟨cur, hc⟩ := row_block h3 g hg
      rw [hc] at e1; cases e1; cases e2
  · subst e
    rw [h1] at hd; cases hd; cases ho
theorem NetL.put {X : Nat → Prop} {w : World} {nb l : Nat} {o : Obj} (o' : Obj) {ts : List (Int × Int × Nat)} {fs : List (Nat × Nat)} (h : NetL X w nb ts fs) (hX : ∀ d, X d → d ≠ nb) (hl : w.heap[l]? = some o) (ho : o.isCells = false) : NetL X (w.putObj l o') nb ts fs := by
  have h2 := h.more
  refine (h2.1.other (w' := w.putObj l o') (fun d hd => ?_) (fun k hk => ?_)).sub (fun d hd => .inl hd)
  · rcases hd with hd | ⟨o2, e1, e2⟩
    · exact hX d hd
    · exact h2.2 d o2 e1 e2
  · exact World.putObj_heap_other (fun e => hk (.inr ⟨o, by rw [e]; exact hl, ho⟩))

end Ex
end Go.Proofs.YtfajoknacfjedaaGreatDoor
