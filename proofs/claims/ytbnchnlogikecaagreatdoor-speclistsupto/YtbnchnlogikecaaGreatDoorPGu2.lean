import Derived.Test.YtbnchnlogikecaaGreatDoorPGu1
namespace Go.Proofs.YtbnchnlogikecaaGreatDoor
open Go.RowKit Go.Maps
attribute [local go_sem] Oper.semAt_some
set_option linter.unusedVariables false
set_option linter.unusedSimpArgs false
set_option maxRecDepth 100000
set_option maxHeartbeats 4000000
namespace Ex
namespace Gu
open Sh Gs
def RuB (w : World) (g : Nat) (x : LxM) (v : Value) : Prop := w.heap[g]? = some (.cells #[.string x.1, .bool x.2.1, .int .i64 (kind x.2.2.2), .int .i64 (from_ x.2.2.2), .int .i64 (to_ x.2.2.2), .int .i64 (min_ x.2.2.2), .int .i64 (max_ x.2.2.2), v] 72 (0, 0))
theorem crule_is (w0 : World) (hP : PowAt w0) (b : Nat) (vl vn vp : Value) (st : Int) (at_ : Int) (x : LxM) (ka : Option Addr) (kn kc : Nat) (r : List ByteArray × List ByteArray) (m : Nat) (xP : SlV) (w : World) (h : ChI w0 w b vl vn vp st r.1 r.2 m xP) (hl : r.1.length ≤ 100000) (hl2 : r.2.length ≤ 100000)
    (hk : KidsAt (fun d => d < w0.heap.size) w0 x.2.2.1 (kids x.2.2.2) (.slice ka kn kc)) :
    Calls Tryz.prog 54 #[.pointer (some ⟨b, 0, none⟩), .int .i64 at_, .agg #[.string x.1, .bool x.2.1, .int .i64 (kind x.2.2.2), .int .i64 (from_ x.2.2.2), .int .i64 (to_ x.2.2.2), .int .i64 (min_ x.2.2.2), .int .i64 (max_ x.2.2.2), .slice ka kn kc]] w (OutK w0 b vl vn vp st m xP w (ruleC at_ x r)) := by
  obtain ⟨R, hR⟩ : ∃ R, ruleC at_ x r = R := ⟨_, rfl⟩
  rw [hR]
  unfold ruleC at hR
  obtain ⟨X1, hX1⟩ : ∃ X, nameC at_ x.1 lexW r = X := ⟨_, rfl⟩
  rw [hX1] at hR
  have HNC : Hid (∀ w xP, ChI w0 w b vl vn vp st r.1 r.2 m xP → Calls Tryz.prog 55 #[.pointer (some ⟨b, 0, none⟩), .int .i64 at_, .string x.1, .string ⟨#[108, 101, 120]⟩] w (OutK w0 b vl vn vp st m xP w X1)) := fun w xP h => by
    rw [← hX1]
    exact name_is w0 b vl vn vp st at_ x.1 lexW r m xP w h hl
  have HXL : Hid (∀ r1, X1 = .ok r1 → r1.2 = r.2) := fun r1 h => by
    have h := hX1.trans h
    unfold nameC at h
    split at h
    · cases h
    · split at h
      · cases h
      · cases h; rfl
  have HPR : Hid (∀ w, Kept w0 w → Calls Tryz.prog 34 #[.agg #[.int .i64 (kind x.2.2.2), .int .i64 (from_ x.2.2.2), .int .i64 (to_ x.2.2.2), .int .i64 (min_ x.2.2.2), .int .i64 (max_ x.2.2.2), .slice ka kn kc]] w fun e w' => e = .returned (.tuple #[.string (printS x.2.2.2), .int .i64 (printE x.2.2.2)]) ∧ Kept w w') := fun w hkw =>
    Print_is (fun d => d < w.heap.size) x.2.2.1 x.2.2.2 (.slice ka kn kc) w (KidsAt.mono (hkw.holds _) (fun _ hd => Nat.lt_of_lt_of_le hd hkw.size) _ _ _ hk) (fun d hd => hd) (hP.keep hkw)
  have HR := hide1 hR
  have HL2 := hide1 hl2
  have HB1 : Hid (RuB (w.alloc (.cells #[.string x.1, .bool x.2.1, .int .i64 (kind x.2.2.2), .int .i64 (from_ x.2.2.2), .int .i64 (to_ x.2.2.2), .int .i64 (min_ x.2.2.2), .int .i64 (max_ x.2.2.2), .slice ka kn kc] 72)) w.heap.size x (.slice ka kn kc)) := heap_alloc_new w _
  have HI1 := hide1 (h.keep ((Kept.refl w).alloc #[.string x.1, .bool x.2.1, .int .i64 (kind x.2.2.2), .int .i64 (from_ x.2.2.2), .int .i64 (to_ x.2.2.2), .int .i64 (min_ x.2.2.2), .int .i64 (max_ x.2.2.2), .slice ka kn kc] 72))
  have HG1 := hide1 ((GoK.refl b m xP w).kept ((Kept.refl w).alloc #[.string x.1, .bool x.2.1, .int .i64 (kind x.2.2.2), .int .i64 (from_ x.2.2.2), .int .i64 (to_ x.2.2.2), .int .i64 (min_ x.2.2.2), .int .i64 (max_ x.2.2.2), .slice ka kn kc] 72))
  have HFA := hide1 (h.far (Nat.le_refl _))
  clear hR hX1 hl hl2 h hk hP
  obtain ⟨nm, tr, n, pt⟩ := x
  dsimp only at HNC HXL HPR HR HB1 HI1 HG1 ⊢
  go_enter Tryz.func54, Tryz.ntmps54
  go_upto_region 1 with fail
  obtain ⟨g5, hg5⟩ : ∃ g, w.heap.size = g := ⟨_, rfl⟩
  obtain ⟨⟨e0, hE0⟩, ⟨e1, hE1⟩, ⟨e2, hE2⟩, ⟨e3, hE3⟩, ⟨e4, hE4⟩⟩ : (∃ x, kind pt = x) ∧ (∃ x, from_ pt = x) ∧ (∃ x, to_ pt = x) ∧ (∃ x, min_ pt = x) ∧ (∃ x, max_ pt = x) := ⟨⟨_, rfl⟩, ⟨_, rfl⟩, ⟨_, rfl⟩, ⟨_, rfl⟩, ⟨_, rfl⟩⟩
  unfold RuB at HB1
  dsimp only at HB1
  rw [hE0, hE1, hE2, hE3, hE4] at HPR HB1 HI1 HG1 ⊢
  generalize w.alloc (.cells #[.string nm, .bool tr, .int .i64 e0, .int .i64 e1, .int .i64 e2, .int .i64 e3, .int .i64 e4, .slice ka kn kc] 72) = W1 at HB1 HI1 HG1 ⊢
  rw [hg5] at HB1 HFA ⊢
  clear hg5 hE0 hE1 hE2 hE3 hE4
  have k0 : W1.cell? ⟨g5, 0, none⟩ = some (.string nm) := by have := HB1.out; simp [World.cell?, this]
  go_wp2_with fail
  go_at_call 55
  refine (HNC.out _ _ HI1.out).mono ?_
  intro e w2 h2
  rcases X1 with f | r1
  · obtain ⟨rfl, hf2, hkt2⟩ := h2
    have h9 : OutK w0 b vl vn vp st m xP w R (thrown f.1 f.2.1 f.2.2) w2 := outK_err (show R = .error (f.1, f.2.1, f.2.2) from HR.out.symm) hf2 (HG1.out.kt hkt2)
    unfold thrown at h9 ⊢
    go_wp2_with fail
    exact ⟨rfl, h9⟩
  obtain ⟨rfl, ⟨xa, xn, xc⟩, hi2, hg2⟩ := h2
  have HI2 := hide1 hi2
  have HG2 := hide1 (HG1.out.trans hg2)
  have HB2 := hide1 ((hg2.block (Array.getElem?_eq_some_iff.1 HB1.out).1 HFA.out).trans HB1.out)
  have hr1 := HXL.out r1 rfl
  obtain ⟨tk, ps⟩ := r1
  dsimp only at hr1 hi2 HI2
  have HLP := hide1 (show ps.length ≤ 100000 by rw [hr1]; exact HL2.out)
  have HXN := hide1 (show ps.length = xn from lo_lens (show LO strE w2 w0.heap.size (.slice xa xn xc) ps from hi2.pats))
  obtain ⟨ts, hts⟩ : ∃ x, printS pt = x := ⟨_, rfl⟩
  obtain ⟨te, hte⟩ : ∃ x, printE pt = x := ⟨_, rfl⟩
  rw [hts, hte] at HPR HR
  have hR2 : (if te ≠ 0 then .error (te, at_, lexW) else .ok (tk, ps ++ [ts])) = R := HR.out
  have HR2 := hide1 hR2
  have k0' : w2.cell? ⟨g5, 2, none⟩ = some (.int .i64 e0) := by have := HB2.out; simp [World.cell?, this]
  have k1 : w2.cell? ⟨g5, 3, none⟩ = some (.int .i64 e1) := by have := HB2.out; simp [World.cell?, this]
  have k2 : w2.cell? ⟨g5, 4, none⟩ = some (.int .i64 e2) := by have := HB2.out; simp [World.cell?, this]
  have k3 : w2.cell? ⟨g5, 5, none⟩ = some (.int .i64 e3) := by have := HB2.out; simp [World.cell?, this]
  have k4 : w2.cell? ⟨g5, 6, none⟩ = some (.int .i64 e4) := by have := HB2.out; simp [World.cell?, this]
  have k5 : w2.cell? ⟨g5, 7, none⟩ = some (.slice ka kn kc) := by have := HB2.out; simp [World.cell?, this]
  clear hi2 hg2 hr1 hts hte hR2 HR k0 HB1 HI1 HG1
  go_upto_region 3 with (go_at_call 34; go_must (refine (HPR.out _ HI2.out.kept).mono ?_; rintro e w3 ⟨rfl, hk3⟩; have HI3 := hide1 (HI2.out.keep hk3); have HG3 := hide1 (HG2.out.kept hk3); clear hk3))
  clear k0' k1 k2 k3 k4 k5
  by_cases hte : te = 0
  case neg =>
    have hR3 := HR2.out
    rw [if_pos hte] at hR3
    have ee : (te != 0) = true := by simpa using hte
    go_wp2_with (go_at_call 51; go_must (refine (Gs.fail_is _ _ _ _).mono ?_; rintro e w7 ⟨rfl, hk7⟩; have h9 : OutK w0 b vl vn vp st m xP w R (thrown te at_ ⟨#[108, 101, 120]⟩) w7 := outK_err hR3.symm (gtrans HI3.out.kept hk7) (HG3.out.kept hk7).1; unfold thrown at h9 ⊢))
    exact ⟨rfl, h9⟩
  have hR3 := HR2.out
  rw [if_neg (by simpa using hte)] at hR3
  have HR3 := hide1 hR3
  have ee : (te != 0) = false := by simpa using hte
  have d5 := HI3.out.box.cells.1.2.2.2.2.2
  dsimp only at d5
  clear hR3 hte HR2
  go_upto_region 5 with fail
  have HI4 := hide1 (HI3.out.keep ((Kept.refl w3).alloc (encStr ts).toArray 9))
  have HG4 := hide1 (HG3.out.kept ((Kept.refl w3).alloc (encStr ts).toArray 9))
  go_wp2_with (at_builtin; refine wpl_lo (E := strE) rfl _ _ rfl w0.heap.size (.slice xa xn xc) ps xn HXN.out (by rfl) HI4.out.pats w3.heap.size ts (by rfl) (heap_alloc_new w3 _) (by show (xn + 1) * 16 ≤ _; have := HXN.out; have := HLP.out; omega) (by unfold maxLen; have := HXN.out; have := HLP.out; omega) HI4.out.kept.size ?_; intro g9 c9 w9 ho9 hg9 hor9 hl9; have HAD := hide1 (HI4.out.pat ho9 hg9 hor9); have HGA : Hid (GoK b m xP w (some ⟨g9, 0, none⟩, xn + 1, c9) (w9.setCell ⟨b, 5, none⟩ (.slice (some ⟨g9, 0, none⟩) (xn + 1) c9))) := HG4.out.trans ⟨KT.wide ⟨hg9.os, hg9.tape, hg9.output, hg9.size, fun d hd hn => hg9.block d hd (fun e => hn (.inr (.inr e.symm)))⟩ (set_kt _ _ _ _) (fun d _ e => .inl e), by { rcases hor9 with e | e; (exact .inl e.symm); (exact .inr ⟨g9, rfl, Nat.le_of_eq e.symm⟩) }⟩; have hb9 : w9.heap[b]? = _ := (hg9.block b HI4.out.ltb (fun e => (HI4.out.nep b e.symm).1 rfl)).trans HI4.out.box; have r5 : w9.cell? ⟨b, 5, none⟩ = some (.slice xa xn xc) := by { simp [World.cell?, hb9, val] }; have rz5 : w9.frozen? ⟨b, 5, none⟩ = false := by { simp [World.frozen?, hb9] }; have hlb9 : b < w9.heap.size := (Array.getElem?_eq_some_iff.1 hb9).1; clear ho9 hg9 hor9 hb9)
  go_end0
  exact outK_ok HR3.out.symm HAD.out HGA.out
end Gu
end Ex
end Go.Proofs.YtbnchnlogikecaaGreatDoor
namespace Go.Proofs.YtbnchnlogikecaaGreatDoor
open Go.RowKit
attribute [local go_sem] Oper.semAt_some
set_option linter.unusedVariables false
set_option linter.unusedSimpArgs false
set_option maxRecDepth 100000
set_option maxHeartbeats 4000000
namespace Ex
namespace Gu
open Sh Gs
def sidesC : Nat → List ProdM → Except Flt Unit
  | _, [] => .ok ()
  | i, p :: ps => if 16 < p.2.length then .error (2, (i : Int), rightW) else sidesC (i + 1) ps
def sizesC (ln nn : Nat) (ps : List ProdM) : Except Flt Unit :=
  if 64 < ln then .error (2, 0, lexW) else if 128 < nn then .error (2, 0, namesW) else if 512 < ps.length then .error (2, 0, prodsW) else sidesC 0 ps
theorem prods_el {w : World} {pa : Option Addr} {pn pc : Nat} {ps : List ProdM} (h : ProdsAt w (.slice pa pn pc) ps) {i : Nat} {p : ProdM} (hi : ps[i]? = some p) : ∃ c o ra rc, pa = some ⟨c, o, none⟩ ∧ w.cell? ⟨c, o + i * 2, none⟩ = some (.int .i64 p.1) ∧ w.cell? ⟨c, o + i * 2 + 1, none⟩ = some (.slice ra p.2.length rc) ∧ RightAt w (.slice ra p.2.length rc) p.2 := by
  obtain ⟨c, o, cs, e, _, _, hc, v', rfl, hr⟩ := SliceOf.el0 h hi
  obtain ⟨ra, rc, rfl, _⟩ := SliceOf.len0 hr
  exact ⟨c, o, ra, rc, e, hc 0 _ rfl, hc 1 _ rfl, hr⟩
theorem slice_n {α : Type} {w : World} {sz : Nat} {El : List Value → α → Prop} {a : Option Addr} {n c : Nat} {xs : List α} (h : SliceOf w sz El (.slice a n c) xs) : xs.length = n ∧ n ≤ c ∧ n ≤ 17592186044416 := by
  obtain ⟨_, _, e1, h1, h2⟩ := SliceOf.len0 h
  cases e1
  exact ⟨rfl, h1, h2⟩
theorem sizes_is (b : Nat) (la na pa : Option Addr) (ln lc nn nc pn pc : Nat) (ps : List ProdM) (w : World) (c0 : w.cell? ⟨b, 0, none⟩ = some (.slice la ln lc)) (c1 : w.cell? ⟨b, 1, none⟩ = some (.slice na nn nc)) (c3 : w.cell? ⟨b, 3, none⟩ = some (.slice pa pn pc)) (hp : ProdsAt w (.slice pa pn pc) ps) :
    Calls Tryz.prog 53 #[.pointer (some ⟨b, 0, none⟩)] w (OutU w (sizesC ln nn ps)) := by
  obtain ⟨R, hR⟩ : ∃ R, sizesC ln nn ps = R := ⟨_, rfl⟩
  rw [hR]
  unfold sizesC at hR
  obtain ⟨hpl, hpc, hpm⟩ := slice_n hp
  have HC0 := hide1 c0
  have HC1 := hide1 c1
  have HC3 := hide1 c3
  have HPS := hide1 hp
  have HPL := hide1 hpl
  rw [hpl] at hR
  clear c0 c1 c3 hp hpl
  by_cases h1 : 64 < ln
  · rw [if_pos h1] at hR
    have HSZ := hide1 (size_bad (ln : Int) 64 0 ⟨#[108, 101, 120]⟩ w (by omega))
    have d0 := HC0.out
    clear h1
    go_enter Tryz.func53, Tryz.ntmps53
    go_wp2_with (go_at_call 73; go_must (refine HSZ.out.mono ?_; rintro e w7 ⟨rfl, hk7⟩; have h9 : OutU w R (thrown 2 0 ⟨#[108, 101, 120]⟩) w7 := by { rw [← hR]; exact ⟨rfl, hk7⟩ }; unfold thrown at h9 ⊢))
    exact ⟨rfl, h9⟩
  rw [if_neg h1] at hR
  have HS1 := hide1 (fun w => size_ok (ln : Int) 64 0 ⟨#[108, 101, 120]⟩ w (by omega))
  by_cases h2 : 128 < nn
  · rw [if_pos h2] at hR
    have HSZ := hide1 (fun w => size_bad (nn : Int) 128 0 ⟨#[110, 97, 109, 101, 115]⟩ w (by omega))
    have d0 := HC0.out
    clear h1 h2
    go_enter Tryz.func53, Tryz.ntmps53
    go_upto_region 1 with (go_at_call 73; go_must (refine (HS1.out _).mono ?_; rintro e w1 ⟨rfl, hk1⟩))
    have d1 := grown_cell hk1 HC1.out
    go_wp2_with (go_at_call 73; go_must (refine (HSZ.out _).mono ?_; rintro e w7 ⟨rfl, hk7⟩; have h9 : OutU w R (thrown 2 0 ⟨#[110, 97, 109, 101, 115]⟩) w7 := by { rw [← hR]; exact ⟨rfl, gtrans hk1 hk7⟩ }; unfold thrown at h9 ⊢))
    exact ⟨rfl, h9⟩
  rw [if_neg h2] at hR
  have HS2 := hide1 (fun w => size_ok (nn : Int) 128 0 ⟨#[110, 97, 109, 101, 115]⟩ w (by omega))
  by_cases h3 : 512 < pn
  · rw [if_pos h3] at hR
    have HSZ := hide1 (fun w => size_bad (pn : Int) 512 0 ⟨#[112, 114, 111, 100, 117, 99, 116, 105, 111, 110, 115]⟩ w (by omega))
    have d0 := HC0.out
    clear h1 h2 h3
    go_enter Tryz.func53, Tryz.ntmps53
    go_upto_region 1 with (go_at_call 73; go_must (refine (HS1.out _).mono ?_; rintro e w1 ⟨rfl, hk1⟩))
    have d1 := grown_cell hk1 HC1.out
    go_upto_region 2 with (go_at_call 73; go_must (refine (HS2.out _).mono ?_; rintro e w2 ⟨rfl, hk2⟩))
    have d3 := grown_cell (gtrans hk1 hk2) HC3.out
    go_wp2_with (go_at_call 73; go_must (refine (HSZ.out _).mono ?_; rintro e w7 ⟨rfl, hk7⟩; have h9 : OutU w R (thrown 2 0 ⟨#[112, 114, 111, 100, 117, 99, 116, 105, 111, 110, 115]⟩) w7 := by { rw [← hR]; exact ⟨rfl, gtrans (gtrans hk1 hk2) hk7⟩ }; unfold thrown at h9 ⊢))
    exact ⟨rfl, h9⟩
  rw [if_neg h3] at hR
  have HS3 := hide1 (fun w => size_ok (pn : Int) 512 0 ⟨#[112, 114, 111, 100, 117, 99, 116, 105, 111, 110, 115]⟩ w (by omega))
  have d0 := HC0.out
  have HR := hide1 hR
  have hpI : (pn : Int) ≤ 512 := by omega
  clear h1 h2 h3 hR
  go_enter Tryz.func53, Tryz.ntmps53
  go_upto_region 1 with (go_at_call 73; go_must (refine (HS1.out _).mono ?_; rintro e w1 ⟨rfl, hk1⟩; have HK1 := hide1 hk1; clear hk1))
  have d1 := grown_cell HK1.out HC1.out
  go_upto_region 2 with (go_at_call 73; go_must (refine (HS2.out _).mono ?_; rintro e w2 ⟨rfl, hk2⟩; have HK2 := hide1 (gtrans HK1.out hk2); clear hk2))
  have d3 := grown_cell HK2.out HC3.out
  go_upto_region 3 with (go_at_call 73; go_must (refine (HS3.out _).mono ?_; rintro e w3 ⟨rfl, hk3⟩; have HK3 := hide1 (gtrans HK2.out hk3); clear hk3))
  clear d0 d1 d3 HK1 HK2
  have d3 := grown_cell HK3.out HC3.out
  go_wp2_with fail
  go_loopw [31] (fun v31 wr => ∃ i : Nat, v31 = .int .i64 (i : Int) ∧ i ≤ pn ∧ Hid (sidesC i (ps.drop i) = R ∧ Kept w wr)) (fun v31 _ => pn - (intOf v31).toNat)
  case atStart => exact ⟨0, rfl, Nat.zero_le _, HR.out, HK3.out⟩
  case round =>
    clear d3 HK3 HR
    obtain ⟨i, rfl, hi, hI⟩ := hrel
    obtain ⟨hq, hk⟩ := hI.out
    have HK := hide1 hk
    by_cases hlt : i < pn
    case neg =>
      rw [List.drop_eq_nil_of_le (by rw [HPL.out]; omega)] at hq
      have h9 : OutU w R (.returned (.tuple #[])) wr := by rw [← hq]; exact ⟨rfl, hk⟩
      have H9 := hide1 h9
      have eI : ¬ ((i : Int) < (pn : Int)) := by omega
      clear hI hq hk h9 hlt hi
      go_wp2_with fail
      go_end0
      exact H9.out
    have hil : i < ps.length := by rw [HPL.out]; exact hlt
    obtain ⟨p, hpe⟩ : ∃ p, ps[i]'hil = p := ⟨_, rfl⟩
    have hpi : ps[i]? = some p := by rw [List.getElem?_eq_getElem hil, hpe]
    rw [List.drop_eq_getElem_cons hil, hpe, sidesC] at hq
    obtain ⟨cb, ob, ra, rc, hpa, k0, k1, hr⟩ := prods_el (ProdsAt.keep HPS.out hk) hpi
    subst hpa
    have eI : (i : Int) < (pn : Int) := by omega
    have gjc : (i : Int) < (pc : Int) := by omega
    obtain ⟨pl, row⟩ := p
    dsimp only at hq k0 k1 hr
    obtain ⟨rn, hrn⟩ : ∃ n, row.length = n := ⟨_, rfl⟩
    rw [hrn] at hq k1
    have HQ := hide1 hq
    have HI2 := hide1 (show i < pn from hlt)
    have HP2 : Hid (PrB (wr.alloc (.cells #[.int .i64 pl, .slice ra rn rc] 66)) wr.heap.size pl (.slice ra rn rc)) := heap_alloc_new wr _
    have HK2 := hide1 (gtrans hk ((Kept.refl wr).alloc #[.int .i64 pl, .slice ra rn rc] 66))
    clear hI hq hk hlt hi hpe hpi hil hr hrn
    go_upto_region 6 with fail
    obtain ⟨g3, hg3⟩ : ∃ g, wr.heap.size = g := ⟨_, rfl⟩
    generalize wr.alloc (.cells #[.int .i64 pl, .slice ra rn rc] 66) = W2 at HP2 HK2 ⊢
    rw [hg3] at HP2 ⊢
    clear hg3 k0 k1
    obtain ⟨s0, s1⟩ := HP2.out.facts
    by_cases h16 : 16 < rn
    · have hq2 := HQ.out
      rw [if_pos h16] at hq2
      have HSZ := hide1 (fun w => size_bad (rn : Int) 16 (i : Int) ⟨#[114, 105, 103, 104, 116]⟩ w (by omega))
      clear h16
      go_wp2_with (go_at_call 73; go_must (refine (HSZ.out _).mono ?_; rintro e w7 ⟨rfl, hk7⟩; have h9 : OutU w R (thrown 2 (i : Int) ⟨#[114, 105, 103, 104, 116]⟩) w7 := by { rw [← hq2]; exact ⟨rfl, gtrans HK2.out hk7⟩ }; unfold thrown at h9 ⊢))
      exact ⟨rfl, h9⟩
    have hq2 := HQ.out
    rw [if_neg h16] at hq2
    have HQ2 := hide1 hq2
    have HSZ := hide1 (fun w => size_ok (rn : Int) 16 (i : Int) ⟨#[114, 105, 103, 104, 116]⟩ w (by omega))
    clear h16 hq2
    go_wp2_with (go_at_call 73; go_must (refine (HSZ.out _).mono ?_; rintro e w7 ⟨rfl, hk7⟩))
    refine ⟨⟨i + 1, by rfl, HI2.out, HQ2.out, gtrans HK2.out hk7⟩, ?_⟩
    have := HI2.out
    simp [intOf]; omega
end Gu
end Ex
end Go.Proofs.YtbnchnlogikecaaGreatDoor
