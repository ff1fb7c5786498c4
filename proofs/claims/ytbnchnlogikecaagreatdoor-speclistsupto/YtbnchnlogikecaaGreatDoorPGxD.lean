import Derived.Test.YtbnchnlogikecaaGreatDoorPGw7
import Derived.Test.YtbnchnlogikecaaGreatDoorPGtA
import Derived.Test.YtbnchnlogikecaaGreatDoorPSpSz2
import Derived.Test.YtbnchnlogikecaaGreatDoorPExKl
import Derived.Deep.RegionHeld3
import Derived.Deep.DeepMust
import Derived.BigQuiet
namespace Go.Proofs.YtbnchnlogikecaaGreatDoor
open Go.RowKit
attribute [local go_sem] Oper.semAt_some
set_option linter.unusedVariables false
namespace Ex
namespace Gu
open Sh Gs
def zW : ByteArray := ⟨#[122]⟩
def chX (x : LxM) : LxM := (x.1 ++ zW, !x.2.1, x.2.2)
def chP (ps : List ProdM) : List ProdM := if ps.length = 0 then ps else ps.set (ps.length - 1) ((ps[ps.length - 1]?.getD (0, [])).1, [(2, 0)])
def chM (sp : SpV) : SpV := { lex := sp.lex.map chX, nam := sp.nam.map (· ++ zW), start := sp.start, prd := chP sp.prd }
def chL {α : Type} (f : α → α) (j : Nat) (l : List α) : List α := (l.take j).map f ++ l.drop j
theorem chL_zero {α : Type} (f : α → α) (l : List α) : chL f 0 l = l := by simp [chL]
theorem chL_all {α : Type} (f : α → α) {j : Nat} {l : List α} (h : l.length ≤ j) : chL f j l = l.map f := by unfold chL; rw [List.take_of_length_le h, List.drop_of_length_le h, List.append_nil]
theorem chL_at {α : Type} (f : α → α) {j : Nat} {l : List α} {x : α} (h : l[j]? = some x) : (chL f j l)[j]? = some x := by
  have hj := (List.getElem?_eq_some_iff.1 h).1
  unfold chL
  rw [List.getElem?_append_right (by simp; omega)]
  simp
  rw [Nat.min_eq_left (by omega), Nat.sub_self, Nat.add_zero]
  exact h
theorem chL_succ {α : Type} (f : α → α) {j : Nat} {l : List α} {x : α} (h : l[j]? = some x) : chL f (j + 1) l = (chL f j l).set j (f x) := by
  have hj := (List.getElem?_eq_some_iff.1 h).1
  have e : l.drop j = x :: l.drop (j + 1) := by
    rw [List.drop_eq_getElem_cons hj]
    rw [List.getElem?_eq_getElem hj] at h
    rw [Option.some.inj h]
  unfold chL
  rw [take_snoc h, e, List.map_append, List.append_assoc, List.set_append_right _ _ (by simp; omega)]
  simp
  rw [Nat.min_eq_left (by omega), Nat.sub_self]
  rfl
def OwnZ (xL xN xP : SlV) (d : Nat) : Prop := (val xL).ownBlock = some d ∨ (val xN).ownBlock = some d ∨ (val xP).ownBlock = some d
def itm (x : LxM) (sv : SlV) : Gs.LexM := (x.1, x.2.1, kind x.2.2.2, from_ x.2.2.2, to_ x.2.2.2, min_ x.2.2.2, max_ x.2.2.2, sv)
section
variable {n0 B : Nat} {w : World} {xL xN xP : SlV} {its : List Gs.LexM} {qs : List PrdM} {ls : List LxM} {ns : List ByteArray} {ps : List ProdM}
theorem far_set {g o : Nat} {u : Value} (hg : ∀ d, FarS n0 B w xL xN xP d → d ≠ g) {n : Nat} {l : List (PatN n)} {v : Value} (h : KidsAt (FarS n0 B w xL xN xP) w n l v) : KidsAt (FarS n0 B (w.setCell ⟨g, o, none⟩ u) xL xN xP) (w.setCell ⟨g, o, none⟩ u) n l v :=
  KidsAt.mono (fun b o v hb hc => (set_other (.inl (hg b hb))).trans hc) (fun d hd => ⟨hd.1, by simp [World.setCell]; exact hd.2.1, hd.2.2⟩) _ _ _ h
theorem lo_setT {α β : Type} {E : ElK α} {F : ElK β} {b1 b2 g o : Nat} {v2 : Value} {u v1 : Value} {l1 : List α} {l2 : List β} (h1 : LO E w b1 v1 l1) (h2 : LO F w b2 v2 l2) (hg : v2.ownBlock = some g) (hT : E.T ≠ F.T) : LO E (w.setCell ⟨g, o, none⟩ u) b1 v1 l1 :=
  h1.same (fun d hd => Below.heap_setCell _ _ _ _ (fun e => lo_apartT h1 h2 hT d hd (by rw [e]; exact hg)))
theorem TwJ.setL {g m c : Nat} (h : TwJ n0 B w (some ⟨g, 0, none⟩, m, c) xN xP its qs ls ns ps) {k j : Nat} {x x' : LxM} {u : Value} (hx : ls[k]? = some x) (hp : x'.2.2 = x.2.2) (hj : j < 8) (hu : ∀ sv, lexE.enc (itm x' sv) = (lexE.enc (itm x sv)).set j u) :
    ∃ its', TwJ n0 B (w.setCell ⟨g, k * 8 + j, none⟩ u) (some ⟨g, 0, none⟩, m, c) xN xP its' qs (ls.set k x') ns ps := by
  obtain ⟨sv, hit, hk⟩ := h.lr k x hx
  have hfar : ∀ d, FarS n0 B w (some ⟨g, 0, none⟩, m, c) xN xP d → d ≠ g := fun d hd e => hd.2.2.1 (by rw [e]; rfl)
  refine ⟨its.set k (itm x' sv), lo_set1 (E := lexE) h.lex (y := itm x' sv) hit hj (hu sv), lo_setT h.nam h.lex rfl (by decide), lo_setT h.prd h.lex rfl (by decide), by simp [h.ll], fun i y hy => ?_, h.pl, fun i p hp => ?_⟩
  · rw [List.getElem?_set] at hy
    by_cases hik : k = i
    · subst hik
      rw [if_pos rfl] at hy
      split at hy
      · cases hy
        refine ⟨sv, by rw [List.getElem?_set_self (List.getElem?_eq_some_iff.1 hit).1]; rfl, ?_⟩
        rw [hp]
        exact far_set hfar hk
      · cases hy
    · rw [if_neg hik] at hy
      obtain ⟨sv', a, b⟩ := h.lr i y hy
      exact ⟨sv', by rw [List.getElem?_set, if_neg hik]; exact a, far_set hfar b⟩
  · obtain ⟨sv', a, b⟩ := h.pr i p hp
    exact ⟨sv', a, lo_setT b h.lex rfl (by decide)⟩
theorem TwJ.setN {g m c : Nat} (h : TwJ n0 B w xL (some ⟨g, 0, none⟩, m, c) xP its qs ls ns ps) {k : Nat} {x x' : ByteArray} (hx : ns[k]? = some x) :
    TwJ n0 B (w.setCell ⟨g, k, none⟩ (.string x')) xL (some ⟨g, 0, none⟩, m, c) xP its qs ls (ns.set k x') ps := by
  have hfar : ∀ d, FarS n0 B w xL (some ⟨g, 0, none⟩, m, c) xP d → d ≠ g := fun d hd e => hd.2.2.2.1 (by rw [e]; rfl)
  have h1 := lo_set1 (E := strE) h.nam (y := x') (u := .string x') hx (j := 0) (by decide) rfl
  have e1 : k * strE.sz + 0 = k := by show k * 1 + 0 = k; omega
  rw [e1] at h1
  refine ⟨lo_setT h.lex h.nam rfl (by decide), h1, lo_setT h.prd h.nam rfl (by decide), h.ll, fun i y hy => ?_, h.pl, fun i p hp => ?_⟩
  · obtain ⟨sv', a, b⟩ := h.lr i y hy
    exact ⟨sv', a, far_set hfar b⟩
  · obtain ⟨sv', a, b⟩ := h.pr i p hp
    exact ⟨sv', a, lo_setT b h.nam rfl (by decide)⟩
theorem TwJ.setP {g m c : Nat} (h : TwJ n0 B w xL xN (some ⟨g, 0, none⟩, m, c) its qs ls ns ps) {k : Nat} {p : ProdM} {row : List SymM} {sv : SlV} (hx : ps[k]? = some p) (hs : LO symE w B (val sv) row) :
    TwJ n0 B (w.setCell ⟨g, k * 2 + 1, none⟩ (val sv)) xL xN (some ⟨g, 0, none⟩, m, c) its (qs.set k (p.1, sv)) ls ns (ps.set k (p.1, row)) := by
  have hfar : ∀ d, FarS n0 B w xL xN (some ⟨g, 0, none⟩, m, c) d → d ≠ g := fun d hd e => hd.2.2.2.2 (by rw [e]; rfl)
  obtain ⟨sv0, hit, hk⟩ := h.pr k p hx
  refine ⟨lo_setT h.lex h.prd rfl (by decide), lo_setT h.nam h.prd rfl (by decide), lo_set1 (E := prdE) h.prd (y := (p.1, sv)) hit (j := 1) (by decide) rfl, h.ll, fun i y hy => ?_, by simp [h.pl], fun i q hq => ?_⟩
  · obtain ⟨sv', a, b⟩ := h.lr i y hy
    exact ⟨sv', a, far_set hfar b⟩
  · rw [List.getElem?_set] at hq
    by_cases hik : k = i
    · subst hik
      rw [if_pos rfl] at hq
      split at hq
      · cases hq
        exact ⟨sv, by rw [List.getElem?_set_self (List.getElem?_eq_some_iff.1 hit).1], lo_setT hs h.prd rfl (by decide)⟩
      · cases hq
    · rw [if_neg hik] at hq
      obtain ⟨sv', a, b⟩ := h.pr i q hq
      exact ⟨sv', by rw [List.getElem?_set, if_neg hik]; exact a, lo_setT b h.prd rfl (by decide)⟩
end
theorem KT.sp {Z : Nat → Prop} {w w' : World} {g : Nat} {x0 x1 x2 x3 : Value} (h : KT Z w w') (hb : SpB w g x0 x1 x2 x3) (hz : ¬ Z g) : SpB w' g x0 x1 x2 x3 := (h.2.2.2.2 g (Array.getElem?_eq_some_iff.1 hb).1 hz).trans hb
def Ch1 (n0 B : Nat) (W : World) (gb : Nat) (sp : SpV) (xL xN xP : SlV) (st : Int) (j : Nat) (wr : World) : Prop :=
  KT (OwnZ xL xN xP) W wr ∧ SpB wr gb (val xL) (val xN) (.int .i64 st) (val xP) ∧ ∃ its qs, TwJ n0 B wr xL xN xP its qs (chL chX j sp.lex) sp.nam sp.prd
def Ch2 (n0 B : Nat) (W : World) (gb : Nat) (sp : SpV) (xL xN xP : SlV) (st : Int) (j : Nat) (wr : World) : Prop :=
  KT (OwnZ xL xN xP) W wr ∧ SpB wr gb (val xL) (val xN) (.int .i64 st) (val xP) ∧ ∃ its qs, TwJ n0 B wr xL xN xP its qs (sp.lex.map chX) (chL (· ++ zW) j sp.nam) sp.prd
end Gu
end Ex
end Go.Proofs.YtbnchnlogikecaaGreatDoor
namespace Go.Proofs.YtbnchnlogikecaaGreatDoor
open Go.RowKit
attribute [local go_sem] Oper.semAt_some
set_option linter.unusedVariables false
set_option linter.unusedSimpArgs false
set_option maxRecDepth 100000
set_option maxHeartbeats 8000000
namespace Ex
namespace Gu
open Sh Gs
theorem lo_new1 {α : Type} {E : ElK α} {w : World} {B g : Nat} {x : α} (h : w.heap[g]? = some (.cells (E.enc x).toArray E.T (0, 0))) (hB : B ≤ g) : LO E w B (.slice (some ⟨g, 0, none⟩) 1 1) [x] := by
  have e0 : flatE E [x] = E.enc x := by unfold flatE; rw [List.flatMap_cons, List.flatMap_nil, List.append_nil]
  refine ⟨by rw [e0, E.len, List.length_singleton, Nat.one_mul], .inr ⟨g, 1, _, rfl, hB, h, Nat.le_refl _, by unfold maxLen; omega, by rw [List.size_toArray, E.len, Nat.one_mul], ?_⟩⟩
  rw [e0]
  simp
  exact List.take_of_length_le (Nat.le_of_eq (E.len x))
theorem alloc_set {w : World} {g o : Nat} {u : Value} {ob : Obj} (hg : g < w.heap.size) : (w.setCell ⟨g, o, none⟩ u).alloc ob = (w.alloc ob).setCell ⟨g, o, none⟩ u := by
  unfold World.setCell World.alloc
  congr 1
  apply Array.ext
  · simp
  · intro i h1 h2
    simp only [Array.getElem_modify, Array.getElem_push, Array.size_modify]
    by_cases hi : i < w.heap.size
    · simp [hi]
    · have : i = w.heap.size := by simp at h1; omega
      subst this
      have : g ≠ w.heap.size := by omega
      simp [this]
theorem changed_is (la na pa : Option Addr) (ln lc nn nc pn pc n0 : Nat) (sp : SpV) (st : Int) (w : World) (h : TwO n0 w (la, ln, lc) (na, nn, nc) (pa, pn, pc) sp) (hl : ln ≤ 4000000000000) (hn : nn ≤ 17592186044416) (hp : pn ≤ 17592186044416) (h5 : ∀ x ∈ sp.lex, x.1.size ≤ 200000000000000) (h6 : ∀ x ∈ sp.nam, x.size ≤ 200000000000000) :
    Calls Tryz.prog 20 #[.agg #[.slice la ln lc, .slice na nn nc, .int .i64 st, .slice pa pn pc]] w fun e w' => e = .returned (.tuple #[]) ∧ TwO n0 w' (la, ln, lc) (na, nn, nc) (pa, pn, pc) (chM sp) ∧ KT (OwnZ (la, ln, lc) (na, nn, nc) (pa, pn, pc)) w w' := by
  obtain ⟨B, its, qs, hb1, hb2, htj⟩ := h
  have hv : ∀ (a : Option Addr) (n c : Nat), val (a, n, c) = .slice a n c := fun a n c => rfl
  have HLN := hide1 (show sp.lex.length = ln from htj.ll.symm.trans (lo_lens htj.lex))
  have HNN := hide1 (show sp.nam.length = nn from lo_lens htj.nam)
  have HPN := hide1 (show sp.prd.length = pn from htj.pl.symm.trans (lo_lens htj.prd))
  have gl1 : (ln : Int) ≤ 4000000000000 := by omega
  have gl2 : (ln : Int) ≤ (lc : Int) := by have h1 := LO.cap (n := ln) (cap := lc) htj.lex; have h2 := lo_lens (n := ln) (c := lc) htj.lex; omega
  have gn1 : (nn : Int) ≤ 17592186044416 := by omega
  have gn2 : (nn : Int) ≤ (nc : Int) := by have h1 := LO.cap (n := nn) (cap := nc) htj.nam; have h2 := lo_lens (n := nn) (c := nc) htj.nam; omega
  have gp1 : (pn : Int) ≤ 17592186044416 := by omega
  have gp2 : (pn : Int) ≤ (pc : Int) := by have h1 := LO.cap (n := pn) (cap := pc) htj.prd; have h2 := lo_lens (n := pn) (c := pc) htj.prd; omega
  have H5 := hide1 h5
  have H6 := hide1 h6
  have HB1 := hide1 hb1
  have HB2 := hide1 hb2
  have HKW : Hid (Kept w (w.alloc (.cells #[.slice la ln lc, .slice na nn nc, .int .i64 st, .slice pa pn pc] 27))) := (Kept.refl w).alloc _ _
  have HSW := hide1 (SpB.new w (.slice la ln lc) (.slice na nn nc) (.int .i64 st) (.slice pa pn pc))
  have HZB : Hid (¬ OwnZ (la, ln, lc) (na, nn, nc) (pa, pn, pc) w.heap.size) := by
    rintro (e | e | e)
    · have := (htj.lex.lt' _ e).2; omega
    · have := (htj.nam.lt' _ e).2; omega
    · have := (htj.prd.lt' _ e).2; omega
  have HT := hide1 htj
  clear h5 h6 hb1 hb2 htj hl hn hp
  go_enter Tryz.func20, Tryz.ntmps20
  go_upto_region 1 with fail
  obtain ⟨W, hW⟩ : ∃ W, w.alloc (.cells #[.slice la ln lc, .slice na nn nc, .int .i64 st, .slice pa pn pc] 27) = W := ⟨_, rfl⟩
  rw [hW] at HKW HSW ⊢
  obtain ⟨gb, hgb⟩ : ∃ g, w.heap.size = g := ⟨_, rfl⟩
  have HGB := hide1 hgb
  rw [hgb] at HSW HZB ⊢
  clear hW hgb
  have HTW := hide1 (HT.out.keep HKW.out)
  go_wp2_with fail
  go_loopw [2] (fun i wr => ∃ j : Nat, i = .int .i64 (j : Int) ∧ j ≤ ln ∧ Ch1 n0 B W gb sp (la, ln, lc) (na, nn, nc) (pa, pn, pc) st j wr) (fun i _ => ln - (intOf i).toNat)
  case atStart => exact ⟨0, rfl, Nat.zero_le _, (Kept.refl W).kt _, HSW.out, its, qs, by rw [chL_zero]; exact HTW.out⟩
  case round =>
    obtain ⟨j, rfl, hj, hkt, hsb, its1, qs1, htj⟩ := hrel
    have HKT := hide1 hkt
    have HSB : Hid (SpB wr gb (.slice la ln lc) (.slice na nn nc) (.int .i64 st) (.slice pa pn pc)) := hsb
    have HTJ := hide1 htj
    clear hkt hsb htj
    obtain ⟨⟨a0, a1, a2, a3⟩, -⟩ := HSB.out.facts
    by_cases hlt : (j : Int) < (ln : Int)
    · obtain ⟨x, hx⟩ : ∃ x, sp.lex[j]? = some x := ⟨_, List.getElem?_eq_getElem (by have := HLN.out; omega)⟩
      have hxc := chL_at chX hx
      obtain ⟨sv, hit, -⟩ := HTJ.out.lr j x hxc
      obtain ⟨gl, rfl⟩ := LO.some HTJ.out.lex (by intro e; rw [e] at hit; simp at hit)
      have hsz := H5.out x (List.mem_of_getElem? hx)
      obtain ⟨nm, tr, pat⟩ := x
      dsimp only at hit hsz
      have C0 : Hid (wr.cell? ⟨gl, j * 8, none⟩ = some (.string nm)) := by
        have := LO.cell HTJ.out.lex (j := 0) (u := .string nm) hit rfl
        exact hide1 this
      have C1r : Hid (wr.cell? ⟨gl, j * 8 + 1, none⟩ = some (.bool tr)) := by
        have := LO.cell HTJ.out.lex (j := 1) (u := .bool tr) hit rfl
        exact hide1 this
      have Z0 : Hid (wr.frozen? ⟨gl, j * 8, none⟩ = false) := by
        have := (lo_set0 (n := ln) (c := lc) HTJ.out.lex (k := j) (by omega) 0 (by decide)).2
        exact hide1 this
      have Z1r : Hid (wr.frozen? ⟨gl, j * 8 + 1, none⟩ = false) := by
        have := (lo_set0 (n := ln) (c := lc) HTJ.out.lex (k := j) (by omega) 1 (by decide)).2
        exact hide1 this
      have HLB : Hid (gl < wr.heap.size) := (HTJ.out.lex.lt' gl rfl).2
      have HNB : Hid (gl ≠ gb) := fun e => HZB.out (by rw [← e]; exact .inl rfl)
      have HXC := hide1 hxc
      have HX := hide1 hx
      have hs9 : nm.size ≤ 9223372036854775806 := by omega
      clear hx hxc hit
      go_upto_region 4 with fail
      clear a0 a1 a2 a3
      refine z_region (S := fun w' => Kept wr w') 12 (by kernel_rfl) (drew_kept _) (fun hHeld => ?_)
      refine tkZ 0 (.pointer (some ⟨gb, 0, none⟩)) [12] rfl (fun w' hSw => ?_) ?_
      · clear hSw
        go_simp
        all_goals omega
      try simp only [layS]
      refine tkZ 1 (.slice (some ⟨gl, 0, none⟩) ln lc) [12] rfl (fun w' hSw => ?_) ?_
      · have q := (HSB.out.keep hSw).facts.1.1; clear hSw
        go_simp
      try simp only [layS]
      refine tkZ 2 (.int .i64 (j : Int)) [12] rfl (fun w' hSw => ?_) ?_
      · clear hSw
        go_simp
        all_goals omega
      try simp only [layS]
      refine tkZ 3 (.pointer (some ⟨gb, 0, none⟩)) [12] rfl (fun w' hSw => ?_) ?_
      · clear hSw
        go_simp
        all_goals omega
      try simp only [layS]
      refine tkZ 4 (.slice (some ⟨gl, 0, none⟩) ln lc) [12] rfl (fun w' hSw => ?_) ?_
      · have q := (HSB.out.keep hSw).facts.1.1; clear hSw
        go_simp
      try simp only [layS]
      refine tkZ 5 (.int .i64 (j : Int)) [12] rfl (fun w' hSw => ?_) ?_
      · clear hSw
        go_simp
        all_goals omega
      try simp only [layS]
      refine tkZ 6 (.pointer (some ⟨gl, j * 8, none⟩)) [12] rfl (fun w' hSw => ?_) ?_
      · clear hSw
        go_simp
        all_goals omega
      try simp only [layS]
      refine tkZ 7 (.pointer (some ⟨gl, j * 8, none⟩)) [12] rfl (fun w' hSw => ?_) ?_
      · clear hSw
        go_simp
        all_goals omega
      try simp only [layS]
      refine tkZ 8 (.string nm) [12] rfl (fun w' hSw => ?_) ?_
      · have q := grown_cell hSw C0.out; clear hSw
        go_simp
      try simp only [layS]
      refine tkZ 9 (.string (nm ++ ⟨#[122]⟩)) [12] rfl (fun w' hSw => ?_) ?_
      · clear hSw
        go_simp
        all_goals omega
      try simp only [layS]
      refine tkZ 10 (.pointer (some ⟨gl, j * 8, none⟩)) [11, 12] rfl (fun w' hSw => ?_) ?_
      · clear hSw
        go_simp
        all_goals omega
      try simp only [layS]
      refine tkZ 11 (.pointer (some ⟨gl, j * 8, none⟩)) [12] rfl (fun w' hSw => ?_) ?_
      · clear hSw
        go_simp
        all_goals omega
      try simp only [layS]
      refine z_last (by kernel_rfl) (by kernel_rfl) rfl (fun K hK => ?_)
      have c0 := C0.out; have z0 := Z0.out; have hlb := HLB.out
      go_simp
      refine hK.out _ _ ?_
      clear hK K hHeld c0 z0 hlb
      obtain ⟨its4, htj4⟩ := TwJ.setL HTJ.out (k := j) (j := 0) (x := (nm, tr, pat)) (x' := (nm ++ zW, tr, pat)) (u := .string (nm ++ zW)) HXC.out rfl (by decide) (fun sv => rfl)
      have HTJ4 : Hid (TwJ n0 B ((wr.setCell ⟨gl, j * 8, none⟩ (.string (nm ++ zW))).drew) _ _ _ _ _ _ _ _) := htj4.keep (drew_kept _)
      have HXC4 : Hid (((chL chX j sp.lex).set j (nm ++ zW, tr, pat))[j]? = some (nm ++ zW, tr, pat)) := List.getElem?_set_self (List.getElem?_eq_some_iff.1 HXC.out).1
      have HKT4 : Hid (KT (OwnZ (some ⟨gl, 0, none⟩, ln, lc) (na, nn, nc) (pa, pn, pc)) W ((wr.setCell ⟨gl, j * 8, none⟩ (.string (nm ++ zW))).drew)) := (HKT.out.trans ((set_kt _ gl _ _).mono (fun k e => .inl (by rw [e]; rfl)))).trans ((drew_kept _).kt _)
      have HSB4 : Hid (SpB ((wr.setCell ⟨gl, j * 8, none⟩ (.string (nm ++ zW))).drew) gb (.slice (some ⟨gl, 0, none⟩) ln lc) (.slice na nn nc) (.int .i64 st) (.slice pa pn pc)) := SpB.keep ((Below.heap_setCell _ _ _ _ (fun e => HNB.out e.symm)).trans HSB.out) (drew_kept _)
      have C1 : Hid (((wr.setCell ⟨gl, j * 8, none⟩ (.string (nm ++ zW))).drew).cell? ⟨gl, j * 8 + 1, none⟩ = some (.bool tr)) := grown_cell (drew_kept _) ((set_other (.inr (by omega))).trans C1r.out)
      have Z1 : Hid (((wr.setCell ⟨gl, j * 8, none⟩ (.string (nm ++ zW))).drew).frozen? ⟨gl, j * 8 + 1, none⟩ = false) := by
        have := (lo_set0 (n := ln) (c := lc) HTJ4.out.lex (k := j) (by omega) 1 (by decide)).2
        exact hide1 this
      have HLB4 : Hid (gl < ((wr.setCell ⟨gl, j * 8, none⟩ (.string (nm ++ zW))).drew).heap.size) := (HTJ4.out.lex.lt' gl rfl).2
      unfold zW at HTJ4 HXC4 HKT4 HSB4 C1 Z1 HLB4
      clear htj4
      generalize (wr.setCell ⟨gl, j * 8, none⟩ (.string (nm ++ ⟨#[122]⟩))).drew = W4 at HTJ4 HKT4 HSB4 C1 Z1 HLB4 ⊢
      go_upto_region 5 with fail
      refine z_region (S := fun w' => Kept W4 w') 12 (by kernel_rfl) (drew_kept _) (fun hHeld => ?_)
      refine tkZ 0 (.pointer (some ⟨gb, 0, none⟩)) [12] rfl (fun w' hSw => ?_) ?_
      · clear hSw
        go_simp
      try simp only [layS]
      refine tkZ 1 (.slice (some ⟨gl, 0, none⟩) ln lc) [12] rfl (fun w' hSw => ?_) ?_
      · have q := (HSB4.out.keep hSw).facts.1.1; clear hSw
        go_simp
      try simp only [layS]
      refine tkZ 2 (.int .i64 (j : Int)) [12] rfl (fun w' hSw => ?_) ?_
      · clear hSw
        go_simp
      try simp only [layS]
      refine tkZ 3 (.pointer (some ⟨gb, 0, none⟩)) [12] rfl (fun w' hSw => ?_) ?_
      · clear hSw
        go_simp
      try simp only [layS]
      refine tkZ 4 (.slice (some ⟨gl, 0, none⟩) ln lc) [12] rfl (fun w' hSw => ?_) ?_
      · have q := (HSB4.out.keep hSw).facts.1.1; clear hSw
        go_simp
      try simp only [layS]
      refine tkZ 5 (.int .i64 (j : Int)) [12] rfl (fun w' hSw => ?_) ?_
      · clear hSw
        go_simp
      try simp only [layS]
      refine tkZ 6 (.pointer (some ⟨gl, j * 8, none⟩)) [12] rfl (fun w' hSw => ?_) ?_
      · clear hSw
        go_simp
      try simp only [layS]
      refine tkZ 7 (.pointer (some ⟨gl, j * 8 + 1, none⟩)) [12] rfl (fun w' hSw => ?_) ?_
      · clear hSw
        go_simp
      try simp only [layS]
      refine tkZ 8 (.bool tr) [12] rfl (fun w' hSw => ?_) ?_
      · have q := grown_cell hSw C1.out; clear hSw
        go_simp
      try simp only [layS]
      refine tkZ 9 (.bool (!tr)) [12] rfl (fun w' hSw => ?_) ?_
      · clear hSw
        go_simp
      try simp only [layS]
      refine tkZ 10 (.pointer (some ⟨gl, j * 8, none⟩)) [11, 12] rfl (fun w' hSw => ?_) ?_
      · clear hSw
        go_simp
      try simp only [layS]
      refine tkZ 11 (.pointer (some ⟨gl, j * 8 + 1, none⟩)) [12] rfl (fun w' hSw => ?_) ?_
      · clear hSw
        go_simp
      try simp only [layS]
      refine z_last (by kernel_rfl) (by kernel_rfl) rfl (fun K hK => ?_)
      have c0 := C1.out; have z0 := Z1.out; have hlb := HLB4.out
      go_simp
      refine hK.out _ _ ?_
      clear hK K hHeld c0 z0 hlb
      obtain ⟨its5, htj5⟩ := TwJ.setL HTJ4.out (k := j) (j := 1) (x := (nm ++ ⟨#[122]⟩, tr, pat)) (x' := (nm ++ ⟨#[122]⟩, !tr, pat)) (u := .bool (!tr)) HXC4.out rfl (by decide) (fun sv => rfl)
      rw [List.set_set] at htj5
      have HTJ5 := hide1 (htj5.keep (drew_kept _))
      have HKT5 : Hid (KT (OwnZ (some ⟨gl, 0, none⟩, ln, lc) (na, nn, nc) (pa, pn, pc)) W ((W4.setCell ⟨gl, j * 8 + 1, none⟩ (.bool (!tr))).drew)) := (HKT4.out.trans ((set_kt _ gl _ _).mono (fun k e => .inl (by rw [e]; rfl)))).trans ((drew_kept _).kt _)
      have HSB5 : Hid (SpB ((W4.setCell ⟨gl, j * 8 + 1, none⟩ (.bool (!tr))).drew) gb (.slice (some ⟨gl, 0, none⟩) ln lc) (.slice na nn nc) (.int .i64 st) (.slice pa pn pc)) := SpB.keep ((Below.heap_setCell _ _ _ _ (fun e => HNB.out e.symm)).trans HSB4.out) (drew_kept _)
      clear htj5
      generalize (W4.setCell ⟨gl, j * 8 + 1, none⟩ (.bool (!tr))).drew = W5 at HTJ5 HKT5 HSB5 ⊢
      go_wp2_with fail
      go_roundw
      case rel => exact ⟨j + 1, by go_num, by omega, HKT5.out, HSB5.out, _, _, by rw [chL_succ chX HX.out]; exact HTJ5.out⟩
      case measure => simp [intOf]; omega
    · have hjl : j = ln := by omega
      subst hjl
      have HT2 : Hid (∃ its qs, TwJ n0 B wr (la, j, lc) (na, nn, nc) (pa, pn, pc) its qs (sp.lex.map chX) sp.nam sp.prd) := by
        have h := HTJ.out
        rw [chL_all chX (Nat.le_of_eq HLN.out)] at h
        exact ⟨_, _, h⟩
      go_wp2_with fail
      obtain ⟨wq, hwq⟩ : ∃ wq, wq = wr := ⟨_, rfl⟩
      subst hwq
      go_loopw [3] (fun i wr => ∃ j' : Nat, i = .int .i64 (j' : Int) ∧ j' ≤ nn ∧ Ch2 n0 B W gb sp (la, j, lc) (na, nn, nc) (pa, pn, pc) st j' wr) (fun i _ => nn - (intOf i).toNat)
      case atStart =>
        obtain ⟨i2, q2, h2⟩ := HT2.out
        exact ⟨0, rfl, Nat.zero_le _, HKT.out, HSB.out, i2, q2, by rw [chL_zero]; exact h2⟩
      case round =>
        clear HT2 HTJ HKT HSB a0 a1 a2 a3
        obtain ⟨L, hL⟩ : ∃ L, L = j := ⟨_, rfl⟩
        subst hL
        obtain ⟨j, rfl, hj, hkt, hsb, its1, qs1, htj⟩ := hrel
        have HKT := hide1 hkt
        have HSB : Hid (SpB wr gb (.slice la L lc) (.slice na nn nc) (.int .i64 st) (.slice pa pn pc)) := hsb
        have HTJ := hide1 htj
        clear hkt hsb htj
        obtain ⟨⟨a0, a1, a2, a3⟩, -⟩ := HSB.out.facts
        by_cases hlt2 : (j : Int) < (nn : Int)
        · obtain ⟨nm, hx⟩ : ∃ x, sp.nam[j]? = some x := ⟨_, List.getElem?_eq_getElem (by have := HNN.out; omega)⟩
          have hxc := chL_at (· ++ zW) hx
          obtain ⟨gl, rfl⟩ := LO.some HTJ.out.nam (by intro e; rw [e] at hxc; simp at hxc)
          have hsz := H6.out nm (List.mem_of_getElem? hx)
          have C0 : Hid (wr.cell? ⟨gl, j, none⟩ = some (.string nm)) := by
            have := LO.cell HTJ.out.nam (j := 0) (u := .string nm) hxc rfl
            have e1 : j * strE.sz + 0 = j := by show j * 1 + 0 = j; omega
            rw [e1] at this
            exact hide1 this
          have Z0 : Hid (wr.frozen? ⟨gl, j, none⟩ = false) := by
            have := (lo_set0 (n := nn) (c := nc) HTJ.out.nam (k := j) (by omega) 0 (by decide)).2
            have e1 : j * strE.sz + 0 = j := by show j * 1 + 0 = j; omega
            rw [e1] at this
            exact hide1 this
          have HLB : Hid (gl < wr.heap.size) := (HTJ.out.nam.lt' gl rfl).2
          have HNB : Hid (gl ≠ gb) := fun e => HZB.out (by rw [← e]; exact .inr (.inl rfl))
          have HXC := hide1 hxc
          have HX := hide1 hx
          have hs9 : nm.size ≤ 9223372036854775806 := by omega
          clear hx hxc
          go_upto_region 9 with fail
          clear a0 a1 a2 a3
          refine z_region (S := fun w' => Kept wr w') 10 (by kernel_rfl) (drew_kept _) (fun hHeld => ?_)
          refine tkZ 0 (.pointer (some ⟨gb, 1, none⟩)) [10] rfl (fun w' hSw => ?_) ?_
          · clear hSw
            go_simp
            all_goals omega
          try simp only [layS]
          refine tkZ 1 (.slice (some ⟨gl, 0, none⟩) nn nc) [10] rfl (fun w' hSw => ?_) ?_
          · have q := (HSB.out.keep hSw).facts.1.2.1; clear hSw
            go_simp
          try simp only [layS]
          refine tkZ 2 (.int .i64 (j : Int)) [10] rfl (fun w' hSw => ?_) ?_
          · clear hSw
            go_simp
            all_goals omega
          try simp only [layS]
          refine tkZ 3 (.pointer (some ⟨gb, 1, none⟩)) [10] rfl (fun w' hSw => ?_) ?_
          · clear hSw
            go_simp
            all_goals omega
          try simp only [layS]
          refine tkZ 4 (.slice (some ⟨gl, 0, none⟩) nn nc) [10] rfl (fun w' hSw => ?_) ?_
          · have q := (HSB.out.keep hSw).facts.1.2.1; clear hSw
            go_simp
          try simp only [layS]
          refine tkZ 5 (.int .i64 (j : Int)) [10] rfl (fun w' hSw => ?_) ?_
          · clear hSw
            go_simp
            all_goals omega
          try simp only [layS]
          refine tkZ 6 (.pointer (some ⟨gl, j, none⟩)) [10] rfl (fun w' hSw => ?_) ?_
          · clear hSw
            go_simp
            all_goals omega
          try simp only [layS]
          refine tkZ 7 (.string nm) [10] rfl (fun w' hSw => ?_) ?_
          · have q := grown_cell hSw C0.out; clear hSw
            go_simp
          try simp only [layS]
          refine tkZ 8 (.string (nm ++ ⟨#[122]⟩)) [10] rfl (fun w' hSw => ?_) ?_
          · clear hSw
            go_simp
            all_goals omega
          try simp only [layS]
          refine tkZ 9 (.pointer (some ⟨gl, j, none⟩)) [10] rfl (fun w' hSw => ?_) ?_
          · clear hSw
            go_simp
            all_goals omega
          try simp only [layS]
          refine z_last (by kernel_rfl) (by kernel_rfl) rfl (fun K hK => ?_)
          have c0 := C0.out; have z0 := Z0.out; have hlb := HLB.out
          go_simp
          refine hK.out _ _ ?_
          clear hK K hHeld c0 z0 hlb
          have HTJ4 : Hid (TwJ n0 B ((wr.setCell ⟨gl, j, none⟩ (.string (nm ++ zW))).drew) _ _ _ _ _ _ _ _) := (TwJ.setN HTJ.out (x' := nm ++ zW) HXC.out).keep (drew_kept _)
          have HKT4 : Hid (KT (OwnZ (la, L, lc) (some ⟨gl, 0, none⟩, nn, nc) (pa, pn, pc)) W ((wr.setCell ⟨gl, j, none⟩ (.string (nm ++ zW))).drew)) := (HKT.out.trans ((set_kt _ gl _ _).mono (fun k e => .inr (.inl (by rw [e]; rfl))))).trans ((drew_kept _).kt _)
          have HSB4 : Hid (SpB ((wr.setCell ⟨gl, j, none⟩ (.string (nm ++ zW))).drew) gb (.slice la L lc) (.slice (some ⟨gl, 0, none⟩) nn nc) (.int .i64 st) (.slice pa pn pc)) := SpB.keep ((Below.heap_setCell _ _ _ _ (fun e => HNB.out e.symm)).trans HSB.out) (drew_kept _)
          rw [← chL_succ (· ++ zW) HX.out] at HTJ4
          obtain ⟨W4, hW4⟩ : ∃ W4, (wr.setCell ⟨gl, j, none⟩ (.string (nm ++ zW))).drew = W4 := ⟨_, rfl⟩
          rw [hW4] at HTJ4 HKT4 HSB4
          unfold zW at hW4
          rw [hW4]
          clear hW4
          go_wp2_with fail
          go_roundw
          case rel => exact ⟨j + 1, by go_num, by omega, HKT4.out, HSB4.out, _, _, HTJ4.out⟩
          case measure => simp [intOf]; omega
        · have HT3 : Hid (TwJ n0 B wr (la, L, lc) (na, nn, nc) (pa, pn, pc) its1 qs1 (sp.lex.map chX) (sp.nam.map (· ++ zW)) sp.prd) := by
            have h := HTJ.out
            rw [chL_all (· ++ zW) (by have := HNN.out; omega)] at h
            exact h
          have HSZ : Hid (B ≤ wr.heap.size) := Nat.le_trans HB2.out (Nat.le_trans HKW.out.size HKT.out.2.2.2.1)
          by_cases hp0 : (0 : Int) < (pn : Int)
          · obtain ⟨p, hp⟩ : ∃ p, sp.prd[pn - 1]? = some p := ⟨_, List.getElem?_eq_getElem (by have := HPN.out; omega)⟩
            obtain ⟨sv, hit, -⟩ := HT3.out.pr (pn - 1) p hp
            obtain ⟨gp, rfl⟩ := LO.some HT3.out.prd (by intro e; rw [e] at hit; simp at hit)
            have C0 := (LO.cell HT3.out.prd (j := 1) (u := val sv) hit rfl)
            have Z0 := (lo_set0 (n := pn) (c := pc) HT3.out.prd (k := pn - 1) (by omega) 1 (by decide)).2
            have C1 : wr.cell? ⟨gp, (pn - 1) * 2 + 1, none⟩ = some (val sv) := C0
            have Z1 : wr.frozen? ⟨gp, (pn - 1) * 2 + 1, none⟩ = false := Z0
            have hlb : gp < wr.heap.size := (HT3.out.prd.lt' gp rfl).2
            obtain ⟨K9, hK9⟩ : ∃ K, pn - 1 = K := ⟨_, rfl⟩
            rw [hK9] at C1 Z1
            have ek : IntKind.i64.wrap ((pn : Int) - 1) = (K9 : Int) := by rw [IntKind.wrap_i64]; omega
            have gk : (K9 : Int) < (pn : Int) := by omega
            have HP := hide1 (show sp.prd[K9]? = some p by rw [← hK9]; exact hp)
            have HKX : Hid (Kept wr (wr.alloc (.cells (symE.enc (2, 0)).toArray 77))) := (Kept.refl wr).alloc _ _
            have C2 : (wr.alloc (.cells (symE.enc (2, 0)).toArray 77)).cell? ⟨gp, K9 * 2 + 1, none⟩ = some (val sv) := grown_cell HKX.out C1
            have Z2 : (wr.alloc (.cells (symE.enc (2, 0)).toArray 77)).frozen? ⟨gp, K9 * 2 + 1, none⟩ = false := by
              have := (lo_set0 (n := pn) (c := pc) (HT3.out.prd.keep HKX.out) (k := K9) (by omega) 1 (by decide)).2
              exact this
            have hlb2 : gp < (wr.alloc (.cells (symE.enc (2, 0)).toArray 77)).heap.size := by rw [World.size_alloc]; omega
            have HK9 := hide1 hK9
            clear hp hit C0 Z0 hK9
            go_wp2_with fail
            go_end0
            have HTX := HT3.out.keep HKX.out
            have hlo : LO symE (wr.alloc (.cells (symE.enc (2, 0)).toArray 77)) B (val (some ⟨wr.heap.size, 0, none⟩, 1, 1)) [(2, 0)] := lo_new1 (heap_alloc_new wr _) HSZ.out
            have hfin := TwJ.setP HTX (k := K9) (row := [(2, 0)]) HP.out hlo
            have hsz2 : B ≤ ((wr.alloc (.cells (symE.enc (2, 0)).toArray 77)).setCell ⟨gp, K9 * 2 + 1, none⟩ (val (some ⟨wr.heap.size, 0, none⟩, 1, 1))).heap.size := by
              have := HSZ.out
              rw [World.size_setCell, World.size_alloc]
              omega
            have hkt2 := ((HKW.out.kt _).trans (HKT.out.trans (HKX.out.kt (OwnZ (la, L, lc) (na, nn, nc) (some ⟨gp, 0, none⟩, pn, pc))))).trans ((set_kt _ gp (K9 * 2 + 1) (val (some ⟨wr.heap.size, 0, none⟩, 1, 1))).mono (fun k e => .inr (.inr (by rw [e]; rfl))))
            rw [← alloc_set hlb] at hfin hsz2 hkt2
            have e : chP sp.prd = sp.prd.set K9 (p.1, [(2, 0)]) := by
              unfold chP
              have h1 := HPN.out
              rw [if_neg (by omega), h1, HK9.out, HP.out]
              rfl
            rw [← e] at hfin
            exact ⟨rfl, ⟨B, its1, _, HB1.out, hsz2, hfin⟩, hkt2⟩
          · have hp1 : pn = 0 := by omega
            subst hp1
            go_wp2_with fail
            go_end0
            refine ⟨rfl, ⟨B, its1, qs1, HB1.out, HSZ.out, ?_⟩, (HKW.out.kt _).trans HKT.out⟩
            have e : chP sp.prd = sp.prd := by
              unfold chP
              rw [if_pos (by have := HPN.out; omega)]
            show TwJ n0 B _ _ _ _ _ _ _ _ (chP sp.prd)
            rw [e]
            exact HT3.out
end Gu
end Ex
end Go.Proofs.YtbnchnlogikecaaGreatDoor
