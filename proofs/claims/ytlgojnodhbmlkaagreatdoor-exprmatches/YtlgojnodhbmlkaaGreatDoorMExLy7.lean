import Derived.Test.YtlgojnodhbmlkaaGreatDoorMExLy3
namespace Go.Proofs.YtlgojnodhbmlkaaGreatDoor
open Go.RowKit
attribute [local go_sem] Oper.semAt_some
namespace Ex

/-- The other alternatives. -/
def altL {n : Nat} (F : PatN (n + 1) → Nat → St → Nat × St) : List (PatN (n + 1)) → Nat → Nat → St → Nat × St
  | [], first, _, st => (first, st)
  | q :: l, first, next, st => altL F l (4097 + (F q next st).2.2.length) next ((F q next st).2.1, (F q next st).2.2 ++ [(first, (F q next st).1)])
theorem alt_grows {n : Nat} {F : PatN (n + 1) → Nat → St → Nat × St} : ∀ (l : List (PatN (n + 1))), (∀ q ∈ l, GrowsL (F q)) → ∀ first, GrowsL (altL F l first)
  | [], _, _, _, _ => ⟨Nat.le_refl _, Nat.le_refl _⟩
  | q :: l, h, first, next, st => by
    have h1 := h q (by simp) next st
    have h2 := alt_grows l (fun q hq => h q (by simp [hq])) (4097 + (F q next st).2.2.length) next ((F q next st).2.1, (F q next st).2.2 ++ [(first, (F q next st).1)])
    simp only [List.length_append, List.length_singleton] at h2
    unfold altL
    exact ⟨Nat.le_trans h1.1 h2.1, by omega⟩
/-- The loop over the other alternatives. -/
def AltR {n : Nat} (X : Nat → Prop) (nb : Nat) (F : PatN (n + 1) → Nat → St → Nat × St) (l : List (PatN (n + 1))) (nx next : Nat) (s : St) (W0 : World) (vf vi : Value) (wr : World) : Prop :=
  ∃ (j f : Nat) (s' : St), vi = .int .i64 (j : Int) ∧ vf = .int .i64 (f : Int) ∧ j ≤ l.length ∧ altL F l nx next s = altL F (l.drop j) f next s' ∧ NetL X wr nb s'.1 s'.2 ∧ XKept X W0 wr
def altsL {n : Nat} (F : PatN (n + 1) → Nat → St → Nat × St) (q : PatN (n + 1)) (l : List (PatN (n + 1))) (next : Nat) (st : St) : Nat × St := altL F l (F q next st).1 next (F q next st).2

set_option linter.unusedSimpArgs false in
set_option maxRecDepth 100000 in
set_option maxHeartbeats 4000000 in
theorem lay_alts (n : Nat) (p : PatN (n + 1 + 1)) (q : PatN (n + 1)) (l : List (PatN (n + 1))) (hq : kids p = q :: l) (hl1 : 1 ≤ l.length) (hkd : kind p = 3) (F : PatN (n + 1) → Nat → St → Nat × St) (hF : ∀ r ∈ kids p, LayC n r (F r)) (hG : ∀ r ∈ kids p, GrowsL (F r)) : LayC (n + 1) p (altsL F q l) := by
  intro X nb next st vk w h hk hX h1 h2
  obtain ⟨⟨nx, s⟩, hr⟩ : ∃ r, F q next st = r := ⟨_, rfl⟩
  have hE : altsL F q l next st = altL F l nx next s := by unfold altsL; rw [hr]
  rw [hE] at h1 h2 ⊢
  have hlg := alt_grows l (fun r hr => hG r (by rw [hq]; simp [hr])) nx next s
  have HL := hide1 hF
  have HGR := hide1 hG
  have HN := hide1 h
  have HX := hide1 hX
  have HKP := hide1 hk
  have HQ := hide1 hq
  have HKD := hide1 hkd
  have HR := hide1 hr
  have hnb := h.lt
  have H1 := hide1 h1
  have H2 := hide1 h2
  have HLG := hide1 hlg
  have HLq := hide1 (hF q (by rw [hq]; simp))
  rw [hq] at hk
  obtain ⟨a2, cap2, e2', hc2, hl2, h7⟩ := hk
  subst e2'
  rcases h7 with h7 | ⟨c, o, rfl, hXc, h7⟩
  · simp at h7
  obtain ⟨u, g0, g1, g2, g3, g4, g5, g6⟩ := h7 0 q rfl
  obtain ⟨a3, cap3, rfl⟩ := g6.form
  have HG6 := hide1 g6
  simp only [Nat.zero_mul, Nat.add_zero] at g0 g1 g2 g3 g4 g5
  have HXC := hide1 hXc
  have H7 := hide1 h7
  simp only [List.length_cons] at hc2
  have hcn : ¬ cap2 = 1 := by omega
  have hl3 : (l.length : Int) ≤ 17592186044416 := by simp only [List.length_cons] at hl2; omega
  clear hl2
  have HLL := hide1 hl1
  clear hl1
  rw [valOf_eq, hkd]
  clear hX hF h hG h1 h2 hq hr hkd hlg hE h7 g6 hXc
  go_enter Tryz.func38, Tryz.ntmps38
  go_wp2_with fail
  obtain ⟨W0, hW0⟩ : ∃ W0, ((w.alloc (Obj.cells #[Value.pointer (some ⟨nb, 0, none⟩)] 59)).alloc (Obj.cells #[Value.int IntKind.i64 3, Value.int IntKind.i64 (from_ p), Value.int IntKind.i64 (to_ p), Value.int IntKind.i64 (min_ p), Value.int IntKind.i64 (max_ p), Value.slice (some ⟨c, o, none⟩) (l.length + 1) cap2] 24)).alloc (Obj.cells #[Value.int IntKind.i64 (next : Int)] 3) = W0 := ⟨_, rfl⟩
  have hk0 : Kept w W0 := by rw [← hW0]; exact (((Kept.refl w).alloc _ _).alloc _ _).alloc _ _
  have hs0 : w.heap.size + 3 = W0.heap.size := by rw [← hW0]; simp
  have b0 : W0.cell? ⟨w.heap.size, 0, none⟩ = some (.pointer (some ⟨nb, 0, none⟩)) := by rw [← hW0]; exact cell_of_row _ _ _ _ _ _ ((heap_alloc_old _ _ (by simp; omega)).trans ((heap_alloc_old _ _ (by simp)).trans (heap_alloc_new w _)))
  have b1 : W0.cell? ⟨w.heap.size + 1, 5, none⟩ = some (.slice (some ⟨c, o, none⟩) (l.length + 1) cap2) := by rw [← hW0]; exact cell_of_row _ _ _ _ _ _ ((heap_alloc_old _ _ (by simp)).trans (heap_alloc2_new w _ _))
  have b2 : W0.cell? ⟨w.heap.size + 2, 0, none⟩ = some (.int .i64 (next : Int)) := by rw [← hW0]; have := heap_alloc_new ((w.alloc (Obj.cells #[Value.pointer (some ⟨nb, 0, none⟩)] 59)).alloc (Obj.cells #[Value.int IntKind.i64 3, Value.int IntKind.i64 (from_ p), Value.int IntKind.i64 (to_ p), Value.int IntKind.i64 (min_ p), Value.int IntKind.i64 (max_ p), Value.slice (some ⟨c, o, none⟩) (l.length + 1) cap2] 24)) (Obj.cells #[Value.int IntKind.i64 (next : Int)] 3); have e : ((w.alloc (Obj.cells #[Value.pointer (some ⟨nb, 0, none⟩)] 59)).alloc (Obj.cells #[Value.int IntKind.i64 3, Value.int IntKind.i64 (from_ p), Value.int IntKind.i64 (to_ p), Value.int IntKind.i64 (min_ p), Value.int IntKind.i64 (max_ p), Value.slice (some ⟨c, o, none⟩) (l.length + 1) cap2] 24)).heap.size = w.heap.size + 2 := (by simp); rw [e] at this; exact cell_of_row _ _ _ _ _ _ this
  rw [hW0]
  clear hW0
  have e0 := grown_cell hk0 g0
  have e1 := grown_cell hk0 g1
  have e2 := grown_cell hk0 g2
  have e3 := grown_cell hk0 g3
  have e4 := grown_cell hk0 g4
  have e5 := grown_cell hk0 g5
  have HK0 := hide1 hk0
  have HNX : Hid (NetL (fun d => X d ∨ (w.heap.size ≤ d ∧ d < w.heap.size + 3)) W0 nb st.1 st.2) := (HN.out.keep hk0).sub (fun d hd => by rcases hd with hd | hd; exact .inl hd; exact .inr (by omega))
  have HXX : Hid (∀ d, (X d ∨ (w.heap.size ≤ d ∧ d < w.heap.size + 3)) → d < W0.heap.size ∧ d ≠ nb) := fun d hd => by rcases hd with hd | hd; (have := HX.out d hd; exact ⟨by omega, this.2⟩); exact ⟨by omega, by omega⟩
  have HKQ : Hid (KidsAt (fun d => X d ∨ (w.heap.size ≤ d ∧ d < w.heap.size + 3)) W0 n (kids q) (.slice a3 (kids q).length cap3)) := KidsAt.mono (fun d o v hd hcc => grown_cell hk0 hcc) (fun d hd => Or.inl hd) _ _ _ HG6.out
  have HS0 := hide1 hs0
  clear hk0 hs0
  have gc : (1 : Int) ≤ (cap2 : Int) := by omega
  have gl : (0 : Int) < (l.length : Int) + 1 := by omega
  go_region_held3 (fun w' => w'.cell? ⟨w.heap.size, 0, none⟩ = some (.pointer (some ⟨nb, 0, none⟩)) ∧ w'.cell? ⟨w.heap.size + 1, 5, none⟩ = some (.slice (some ⟨c, o, none⟩) (l.length + 1) cap2) ∧ w'.cell? ⟨w.heap.size + 2, 0, none⟩ = some (.int .i64 (next : Int)) ∧ w'.cell? ⟨c, o, none⟩ = some (.int .i64 (kind q)) ∧ w'.cell? ⟨c, o + 1, none⟩ = some (.int .i64 (from_ q)) ∧ w'.cell? ⟨c, o + 2, none⟩ = some (.int .i64 (to_ q)) ∧ w'.cell? ⟨c, o + 3, none⟩ = some (.int .i64 (min_ q)) ∧ w'.cell? ⟨c, o + 4, none⟩ = some (.int .i64 (max_ q)) ∧ w'.cell? ⟨c, o + 5, none⟩ = some (.slice a3 (kids q).length cap3)) (first | exact ⟨by with_reducible assumption, by with_reducible assumption, by with_reducible assumption, by with_reducible assumption, by with_reducible assumption, by with_reducible assumption, by with_reducible assumption, by with_reducible assumption, by with_reducible assumption⟩ | go_keep)
    ((go_at_call 38; refine (LayC.at HLq.out (fun d => X d ∨ (w.heap.size ≤ d ∧ d < w.heap.size + 3)) nb next _ st _ _ rfl (by exact HNX.out) (HKQ.out.kept (drew_kept _)) (by exact HXX.out) (by rw [HR.out]; exact Nat.le_trans HLG.out.1 H1.out) (by rw [HR.out]; exact Nat.le_trans HLG.out.2 H2.out)).mono ?_; rintro e w9 ⟨rfl, hn9, hk9⟩; rw [HR.out] at hn9; have HN9 := hide1 hn9; have HK9 := hide1 hk9; have j0 := hk9.cell (.inr (by omega)) b0; have j1 := hk9.cell (.inr (by omega)) b1; have j2 := hk9.cell (.inr (by omega)) b2; have l0 := hk9.cell (.inl HXC.out) e0; have l1 := hk9.cell (.inl HXC.out) e1; have l2 := hk9.cell (.inl HXC.out) e2; have l3 := hk9.cell (.inl HXC.out) e3; have l4 := hk9.cell (.inl HXC.out) e4; have l5 := hk9.cell (.inl HXC.out) e5; clear hn9 hk9))
  rw [HR.out]
  have HXW : Hid (XKept (fun d => X d ∨ (w.heap.size ≤ d ∧ d < w.heap.size + 3)) W0 w9) := HK9.out
  clear HK9 j1 l0 l1 l2 l3 l4 l5
  go_wp2_with fail
  go_loopw [7, 52] (fun vf vi wr => AltR (fun d => X d ∨ (w.heap.size ≤ d ∧ d < w.heap.size + 3)) nb F l nx next s W0 vf vi wr) (fun _ vi _ => l.length - (intOf vi).toNat)
  case atStart => exact ⟨0, nx, s, rfl, rfl, Nat.zero_le _, rfl, HN9.out, HXW.out⟩
  case round =>
    obtain ⟨j, f, s', rfl, rfl, hj, hM, hN, hkx⟩ := hrel
    have HM := hide1 hM
    have HN1 := hide1 hN
    have HKX := hide1 hkx
    have p0 := hkx.cell (.inr (by omega)) b0
    have p2 := hkx.cell (.inr (by omega)) b2
    clear hM hN hkx
    by_cases hlt : (j : Int) < (l.length : Int)
    · have hlt' : j < l.length := by omega
      obtain ⟨r, hr⟩ : ∃ r, l[j]? = some r := ⟨_, List.getElem?_eq_getElem hlt'⟩
      have HRJ := hide1 hr
      have HLT := hide1 hlt'
      have hd : l.drop j = r :: l.drop (j + 1) := by rw [List.drop_eq_getElem_cons hlt']; congr 1; exact Option.some.inj ((List.getElem?_eq_getElem hlt').symm.trans hr)
      obtain ⟨⟨fx, fs⟩, hfx⟩ : ∃ z, F r next s' = z := ⟨_, rfl⟩
      have HFX := hide1 hfx
      have HM2 : Hid (altL F l nx next s = altL F (l.drop (j + 1)) (4097 + fs.2.length) next (fs.1, fs.2 ++ [(f, fx)])) := by
        show _ = _
        rw [HM.out, hd]
        rw [altL, hfx]
      have hmem : r ∈ kids p := by rw [HQ.out]; exact List.mem_cons_of_mem _ (List.mem_of_getElem? hr)
      have hb := alt_grows (l.drop (j + 1)) (fun z hz => HGR.out z (by rw [HQ.out]; exact List.mem_cons_of_mem _ (List.mem_of_mem_drop hz))) (4097 + fs.2.length) next (fs.1, fs.2 ++ [(f, fx)])
      rw [← HM2.out] at hb
      have HB : Hid (fs.1.length ≤ 300000 ∧ fs.2.length ≤ 300000) := by
        have k1 := H1.out
        have k2 := H2.out
        simp only [List.length_append, List.length_singleton] at hb
        exact ⟨by omega, by omega⟩
      have HLr := hide1 (HL.out r hmem)
      obtain ⟨ur, y0, y1, y2, y3, y4, y5, y6⟩ := H7.out (j + 1) r (by rw [List.getElem?_cons_succ]; exact hr)
      obtain ⟨ar, cr, rfl⟩ := y6.form
      rw [show o + (j + 1) * 6 = o + 6 + j * 6 by omega] at y0 y1 y2 y3 y4 y5
      have x0 := HKX.out.cell (.inl HXC.out) (grown_cell HK0.out y0)
      have x1 := HKX.out.cell (.inl HXC.out) (grown_cell HK0.out y1)
      have x2 := HKX.out.cell (.inl HXC.out) (grown_cell HK0.out y2)
      have x3 := HKX.out.cell (.inl HXC.out) (grown_cell HK0.out y3)
      have x4 := HKX.out.cell (.inl HXC.out) (grown_cell HK0.out y4)
      have x5 := HKX.out.cell (.inl HXC.out) (grown_cell HK0.out y5)
      have HY6 : Hid (KidsAt (fun d => X d ∨ (w.heap.size ≤ d ∧ d < w.heap.size + 3)) wr n (kids r) (.slice ar (kids r).length cr)) := KidsAt.mono (fun d o v hd hcc => HKX.out.cell (Or.inl hd) (grown_cell HK0.out hcc)) (fun d hd => Or.inl hd) _ _ _ y6
      clear y0 y1 y2 y3 y4 y5 y6 hb hmem hfx hd hr hlt'
      have hsw : w.heap.size + 3 ≤ wr.heap.size := by have := HKX.out.2.2.2.1; have := HS0.out; omega
      have hnw : nb < wr.heap.size := by omega
      have HXX2 : Hid (∀ d, (X d ∨ (w.heap.size ≤ d ∧ d < w.heap.size + 3)) → d < wr.heap.size ∧ d ≠ nb) := fun d hd => by have := HXX.out d hd; have := HKX.out.2.2.2.1; exact ⟨by omega, by omega⟩
      go_wp2_with fail
      obtain ⟨W1, hW1⟩ : ∃ W1, wr.alloc (Obj.cells #[Value.int IntKind.i64 (kind r), Value.int IntKind.i64 (from_ r), Value.int IntKind.i64 (to_ r), Value.int IntKind.i64 (min_ r), Value.int IntKind.i64 (max_ r), Value.slice ar (kids r).length cr] 24) = W1 := ⟨_, rfl⟩
      have HK1 : Hid (Kept wr W1) := by rw [← hW1]; exact (Kept.refl wr).alloc _ _
      have HS1 : Hid (wr.heap.size + 1 = W1.heap.size) := by show _ = _; rw [← hW1]; simp
      have hbx : BoxAt W1 wr.heap.size (.int .i64 (kind r)) (.int .i64 (from_ r)) (.int .i64 (to_ r)) (.int .i64 (min_ r)) (.int .i64 (max_ r)) (.slice ar (kids r).length cr) := by rw [← hW1]; exact BoxAt.new wr _ _ _ _ _ _
      have HNW : Hid (NetL (fun d => (X d ∨ (w.heap.size ≤ d ∧ d < w.heap.size + 3)) ∨ d = wr.heap.size) W1 nb s'.1 s'.2) := by rw [← hW1]; exact HN1.out.box _ _
      rw [hW1]
      clear hW1
      obtain ⟨⟨q0, q1, q2, q3, q4, q5⟩, zz⟩ := hbx.facts
      clear zz hbx
      have k0 := grown_cell HK1.out p0
      have k2 := grown_cell HK1.out p2
      have HY7 : Hid (KidsAt (fun d => (X d ∨ (w.heap.size ≤ d ∧ d < w.heap.size + 3)) ∨ d = wr.heap.size) W1 n (kids r) (.slice ar (kids r).length cr)) := KidsAt.mono (fun d o v hd hcc => grown_cell HK1.out hcc) (fun d hd => Or.inl hd) _ _ _ HY6.out
      have HXX3 : Hid (∀ d, ((X d ∨ (w.heap.size ≤ d ∧ d < w.heap.size + 3)) ∨ d = wr.heap.size) → d < W1.heap.size ∧ d ≠ nb) := fun d hd => by have := HS1.out; rcases hd with hd | hd; (have := HXX2.out d hd; exact ⟨by omega, this.2⟩); exact ⟨by omega, by omega⟩
      clear x0 x1 x2 x3 x4 x5 p0 p2 g0 g1 g2 g3 g4 g5 e0 e1 e2 e3 e4 e5
      go_region_held3 (fun w' => w'.cell? ⟨w.heap.size, 0, none⟩ = some (.pointer (some ⟨nb, 0, none⟩)) ∧ w'.cell? ⟨w.heap.size + 2, 0, none⟩ = some (.int .i64 (next : Int)) ∧ w'.cell? ⟨wr.heap.size, 0, none⟩ = some (.int .i64 (kind r)) ∧ w'.cell? ⟨wr.heap.size, 1, none⟩ = some (.int .i64 (from_ r)) ∧ w'.cell? ⟨wr.heap.size, 2, none⟩ = some (.int .i64 (to_ r)) ∧ w'.cell? ⟨wr.heap.size, 3, none⟩ = some (.int .i64 (min_ r)) ∧ w'.cell? ⟨wr.heap.size, 4, none⟩ = some (.int .i64 (max_ r)) ∧ w'.cell? ⟨wr.heap.size, 5, none⟩ = some (.slice ar (kids r).length cr)) (first | exact ⟨by with_reducible assumption, by with_reducible assumption, by with_reducible assumption, by with_reducible assumption, by with_reducible assumption, by with_reducible assumption, by with_reducible assumption, by with_reducible assumption⟩ | go_keep)
        ((first
          | (go_at_call 38; refine (LayC.at HLr.out (fun d => (X d ∨ (w.heap.size ≤ d ∧ d < w.heap.size + 3)) ∨ d = wr.heap.size) nb next _ s' _ _ rfl (by exact HNW.out) (HY7.out.kept (drew_kept _)) (by exact HXX3.out) (by rw [HFX.out]; exact HB.out.1) (by rw [HFX.out]; exact HB.out.2)).mono ?_; rintro e w5 ⟨rfl, hn5, hk5⟩; rw [HFX.out] at hn5 ⊢; have HN5 := hide1 hn5; have HK5 := hide1 hk5; have m0 := hk5.cell (.inl (.inr (by omega))) k0; have m2 := hk5.cell (.inl (.inr (by omega))) k2; have n0 := hk5.cell (.inr rfl) q0; have n1 := hk5.cell (.inr rfl) q1; have n2 := hk5.cell (.inr rfl) q2; have n3 := hk5.cell (.inr rfl) q3; have n4 := hk5.cell (.inr rfl) q4; have n5 := hk5.cell (.inr rfl) q5; clear hn5 hk5)
          | (go_at_call 58; refine (fork_is (fun d => (X d ∨ (w.heap.size ≤ d ∧ d < w.heap.size + 3)) ∨ d = wr.heap.size) nb fs.1 fs.2 f fx _ (by exact HN5.out) (fun d hd => by have h1 := HXX3.out d hd; have h2 := HK5.out.2.2.2.1; exact ⟨Nat.lt_of_lt_of_le h1.1 h2, h1.2⟩) HB.out.2).mono ?_; rintro e w6 ⟨rfl, hn6, hk6⟩; have HN6 := hide1 hn6; have HK6 := hide1 hk6; have r0 := hk6.cell (.inl (.inr (by omega))) m0; have r2 := hk6.cell (.inl (.inr (by omega))) m2; have t0 := hk6.cell (.inr rfl) n0; have t1 := hk6.cell (.inr rfl) n1; have t2 := hk6.cell (.inr rfl) n2; have t3 := hk6.cell (.inr rfl) n3; have t4 := hk6.cell (.inr rfl) n4; have t5 := hk6.cell (.inr rfl) n5; clear hn6 hk6)))
      go_wp2_with fail
      go_roundw
      case rel => exact ⟨j + 1, 4097 + fs.2.length, (fs.1, fs.2 ++ [(f, fx)]), by go_num, rfl, HLT.out, HM2.out, HN6.out.sub (fun d hd => .inl hd), HKX.out.trans ((HK1.out.x (fun d hd => (HXX2.out d hd).1)).trans ((HK5.out.trans HK6.out).sub (fun d hd => .inl hd)))⟩
      case measure => have := HLT.out; simp [intOf]; omega
    · have HE : Hid (altL F l nx next s = (f, s')) := by
        show _ = _
        rw [HM.out, List.drop_eq_nil_of_le (by omega)]
        rfl
      go_wp2_with fail
      go_ret
      rw [HE.out]
      refine ⟨rfl, HN1.out.sub (fun d hd => .inl hd), ?_⟩
      exact (HK0.out.x (fun d hd => (HX.out d hd).1)).trans (HKX.out.sub (fun d hd => .inl hd))

end Ex
end Go.Proofs.YtlgojnodhbmlkaaGreatDoor
