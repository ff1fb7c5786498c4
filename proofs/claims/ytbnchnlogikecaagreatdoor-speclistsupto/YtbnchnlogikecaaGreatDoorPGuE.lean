import Derived.Test.YtbnchnlogikecaaGreatDoorPGu9
import Derived.Test.YtbnchnlogikecaaGreatDoorPGuM
import Derived.Deep.DeepMust
import Derived.BigQuiet
import Derived.Test.YtbnchnlogikecaaGreatDoorPGu6
import Derived.Test.YtbnchnlogikecaaGreatDoorPGt1
import Derived.OwnWalk
import Derived.Test.YtbnchnlogikecaaGreatDoorPExFr0
import Derived.Test.YtbnchnlogikecaaGreatDoorPSpSz2
namespace Go.Proofs.YtbnchnlogikecaaGreatDoor
open Go.RowKit
set_option linter.unusedVariables false
set_option maxRecDepth 100000
namespace Ex
namespace Gu
open Sh Gs
def text0 : ByteArray := ⟨#[65, 61, 120, 124, 59, 116, 111, 107, 101, 110, 32, 120, 61, 47, 97, 47, 59, 115, 116, 97, 114, 116, 32, 65, 59]⟩
def out0 : ByteArray := ⟨#[116, 111, 107, 101, 110, 32, 120, 32, 61, 32, 47, 97, 47, 59, 10, 115, 116, 97, 114, 116, 32, 65, 59, 10, 65, 32, 61, 32, 120, 32, 124, 59, 10]⟩
def spec0 (p : Pat) : SpV := { lex := [(⟨#[120]⟩, false, p)], nam := [⟨#[65]⟩], start := 0, prd := [(0, [(1, 0)]), (0, [])] }
theorem head_parse : (match parseG text0 with | .ok s => some (spv s) | .error _ => none) = some (spec0 (parseM ⟨#[97]⟩).1) := by kernel_rfl
end Gu
end Ex
end Go.Proofs.YtbnchnlogikecaaGreatDoor
namespace Go.Proofs.YtbnchnlogikecaaGreatDoor
open Go.RowKit
attribute [local go_sem] Oper.semAt_some
set_option linter.unusedVariables false
set_option linter.unusedSimpArgs false
set_option maxRecDepth 100000
set_option maxHeartbeats 2000000
namespace Ex
namespace Gu
open Sh Gs
theorem PrintS_is (la na pa : Option Addr) (ln lc nn nc pn pc : Nat) (sp : SpV) (w : World) (hr : SpR w (.slice la ln lc) (.slice na nn nc) (.slice pa pn pc) sp) (hP : PowAt w) :
    Calls Tryz.prog 13 #[.agg #[.slice la ln lc, .slice na nn nc, .int .i64 sp.start, .slice pa pn pc]] w fun e w' => e = .returned (.tuple #[.string (writeM sp).1, .int .i64 (writeM sp).2.1]) ∧ Kept w w' := by
  obtain ⟨⟨tx, f0, f1, f2⟩, hY⟩ : ∃ Y, writeM sp = Y := ⟨_, rfl⟩
  have HK1 := hide1 ((Kept.refl w).alloc #[.slice la ln lc, .slice na nn nc, .int .i64 sp.start, .slice pa pn pc] 27)
  have HB1 : Hid ((w.alloc (.cells #[.slice la ln lc, .slice na nn nc, .int .i64 sp.start, .slice pa pn pc] 27)).heap[w.heap.size]? = some (.cells #[.slice la ln lc, .slice na nn nc, .int .i64 sp.start, .slice pa pn pc] 27 (0, 0))) := heap_alloc_new w _
  have HWR := hide1 (fun w1 (hk : Kept w w1) => writeS_is la na pa ln lc nn nc pn pc sp w1 (hr.keep hk) (hP.keep hk))
  rw [hY] at HWR ⊢
  unfold fltV at HWR
  dsimp only at HWR ⊢
  obtain ⟨st, hst⟩ : ∃ st, sp.start = st := ⟨_, rfl⟩
  rw [hst] at HK1 HB1 HWR ⊢
  clear hY hr hP hst
  go_enter Tryz.func13, Tryz.ntmps13
  go_upto_region 1 with fail
  obtain ⟨g1, hg1⟩ : ∃ g, w.heap.size = g := ⟨_, rfl⟩
  generalize w.alloc (.cells #[.slice la ln lc, .slice na nn nc, .int .i64 st, .slice pa pn pc] 27) = W1 at HK1 HB1 ⊢
  rw [hg1] at HB1 ⊢
  clear hg1
  have k0 : W1.cell? ⟨g1, 0, none⟩ = some (.slice la ln lc) := by have := HB1.out; simp [World.cell?, this]
  have k1 : W1.cell? ⟨g1, 1, none⟩ = some (.slice na nn nc) := by have := HB1.out; simp [World.cell?, this]
  have k2 : W1.cell? ⟨g1, 2, none⟩ = some (.int .i64 st) := by have := HB1.out; simp [World.cell?, this]
  have k3 : W1.cell? ⟨g1, 3, none⟩ = some (.slice pa pn pc) := by have := HB1.out; simp [World.cell?, this]
  go_upto_region 2 with (go_at_call 30; go_must (refine (HWR.out W1 HK1.out).mono ?_; rintro e w2 ⟨rfl, hk2⟩; have HK2 := hide1 ((gtrans HK1.out hk2).alloc #[.int .i64 f0, .int .i64 f1, .string f2] 30); have HB2 : Hid (FbB (w2.alloc (.cells #[.int .i64 f0, .int .i64 f1, .string f2] 30)) w2.heap.size f0 f1 f2) := heap_alloc_new w2 _; clear hk2))
  obtain ⟨g5, hg5⟩ : ∃ g, w2.heap.size = g := ⟨_, rfl⟩
  generalize w2.alloc (.cells #[.int .i64 f0, .int .i64 f1, .string f2] 30) = W2 at HK2 HB2 ⊢
  rw [hg5] at HB2 ⊢
  clear hg5
  obtain ⟨⟨c0, c1, c2⟩, -⟩ := HB2.out.facts
  go_wp2_with (go_quiet (fail))
  go_ret2
  exact ⟨rfl, gtrans HK2.out (drewN_kept _ _)⟩
theorem lo_slice {α β : Type} {E : ElK α} {w : World} {base sz : Nat} {v : Value} {l : List α} {xs : List β} {El : List Value → β → Prop} (h : LO E w base v l) (hsz : E.sz = sz) (hl : l.length = xs.length) (hlen : l.length ≤ 17592186044416) (he : ∀ (i : Nat) (x : α) (y : β), l[i]? = some x → xs[i]? = some y → El (E.enc x) y) : SliceOf w sz El v xs := by
  subst hsz
  obtain ⟨a, c, rfl⟩ := h.form
  refine ⟨a, c, by rw [← hl], by rw [← hl]; exact LO.cap h, by omega, ?_⟩
  by_cases hx : xs = []
  · exact .inl hx
  · have hne : l ≠ [] := fun e => hx (by rw [e] at hl; exact List.eq_nil_of_length_eq_zero hl.symm)
    obtain ⟨g, e⟩ := LO.some h hne
    subst e
    refine .inr ⟨g, 0, rfl, (h.lt' g rfl).2, fun i y hi => ?_⟩
    have hil : i < l.length := by rw [hl]; exact (List.getElem?_eq_some_iff.1 hi).1
    refine ⟨E.enc (l[i]'hil), E.len _, fun j u hj => ?_, he i _ y (List.getElem?_eq_getElem hil) hi⟩
    rw [Nat.zero_add]
    exact LO.cell h (List.getElem?_eq_getElem hil) hj
theorem SpO.rd {base : Nat} {w : World} {v : Value} {s : RSt} (h : SpO base w v s) (h1 : s.lex.length ≤ 17592186044416) (h2 : s.nam.length ≤ 17592186044416) (h3 : s.prd.length ≤ 17592186044416) (h4 : ∀ ys ∈ s.sds, ys.length ≤ 17592186044416) (h5 : ∀ x ∈ s.lex, x.1.size ≤ 200000000000000) (h6 : ∀ x ∈ s.nam, x.size ≤ 200000000000000) :
    ∃ vl vn vp, v = .agg #[vl, vn, .int .i64 (spv s).start, vp] ∧ SpR w vl vn vp (spv s) := by
  obtain ⟨xL, xN, xP, its, ps, ρ, rfl, hL, hLR, hN, hPp, hPR, _⟩ := h
  refine ⟨_, _, _, rfl, ?_, ?_, ?_⟩
  · refine lo_slice (E := lexE) hL rfl hLR.1 (by rw [hLR.1]; exact h1) (fun i x y hx hy => ?_)
    obtain ⟨_, F, hF1, _, hF⟩ := hLR
    obtain ⟨sv, h7, h8⟩ := hF i y hy
    rw [hx] at h7
    cases h7
    exact ⟨val sv, rfl, h5 y (List.mem_of_getElem? hy), KidsO.at_ _ (fun d hd => (hF1 i d hd).2) _ _ h8⟩
  · refine lo_slice (E := strE) hN rfl rfl h2 (fun i x y hx hy => ?_)
    have e : some x = some y := hx.symm.trans hy
    cases e
    exact ⟨rfl, h6 x (List.mem_of_getElem? hx)⟩
  · have hz : (s.prd.zip s.sds).length = s.prd.length := by rw [List.length_zip, hPR.lens, Nat.min_self]
    refine lo_slice (E := prdE) hPp rfl (by show _ = (s.prd.zip s.sds).length; rw [hz, hPR.len]) (by rw [hPR.len]; exact h3) (fun i x y hx hy => ?_)
    have hy2 : (s.prd.zip s.sds)[i]? = some y := hy
    obtain ⟨hy3, hy4⟩ := List.getElem?_zip_eq_some.1 hy2
    refine ⟨val x.2, ?_, lo_slice (E := symE) (hPR.side i x y.2 hx hy4) rfl rfl (h4 _ (List.mem_of_getElem? hy4)) (fun j a b ha hb => by rw [ha] at hb; cases hb; rfl)⟩
    have := hPR.left i x hx
    rw [hy3] at this
    rw [Option.some.inj this]
    rfl
end Gu
end Ex
end Go.Proofs.YtbnchnlogikecaaGreatDoor
namespace Go.Proofs.YtbnchnlogikecaaGreatDoor
open Go.RowKit
attribute [local go_sem] Oper.semAt_some
set_option linter.unusedVariables false
namespace Ex
namespace Gu
open Sh Gs
def SzV (sp : SpV) : Prop := sp.lex.length * 88 ≤ 140737488351232 ∧ sp.nam.length * 16 ≤ 140737488351232 ∧ sp.prd.length * 32 ≤ 140737488351232 ∧ ∀ p ∈ sp.prd, p.2.length * 16 ≤ 140737488351232
theorem lo_apartT {α β : Type} {E : ElK α} {F : ElK β} {w : World} {b1 b2 : Nat} {v1 v2 : Value} {l1 : List α} {l2 : List β} (h1 : LO E w b1 v1 l1) (h2 : LO F w b2 v2 l2) (hT : E.T ≠ F.T) : ∀ d, v1.ownBlock = some d → v2.ownBlock ≠ some d := fun d hd he => by
  obtain ⟨c1, e1⟩ := LO.type h1 hd
  obtain ⟨c2, e2⟩ := LO.type h2 he
  rw [e1] at e2
  injection e2 with e2
  injection e2 with _ e3 _
  exact hT e3
theorem lo_othT {α β : Type} {E : ElK α} {F : ElK β} {w w' : World} {b1 b2 : Nat} {v1 v2 : Value} {l1 : List α} {l2 : List β} (h1 : LO E w b1 v1 l1) (h2 : LO F w b2 v2 l2) (hT : E.T ≠ F.T) (hg : w.grownBy w' v2.ownBlock) : LO E w' b1 v1 l1 :=
  h1.same (fun d hd => hg.block d (h1.lt' d hd).2 (fun e => lo_apartT h1 h2 hT d hd e.symm))
def FarS (n0 B : Nat) (w : World) (xL xN xP : SlV) (d : Nat) : Prop := (d < n0 ∨ B ≤ d) ∧ d < w.heap.size ∧ (val xL).ownBlock ≠ some d ∧ (val xN).ownBlock ≠ some d ∧ (val xP).ownBlock ≠ some d
structure TwJ (n0 B : Nat) (w : World) (xL xN xP : SlV) (its : List Gs.LexM) (qs : List PrdM) (ls : List LxM) (ns : List ByteArray) (ps : List ProdM) : Prop where
  lex : LO lexE w B (val xL) its
  nam : LO strE w B (val xN) ns
  prd : LO prdE w B (val xP) qs
  ll : its.length = ls.length
  lr : ∀ (i : Nat) (x : LxM), ls[i]? = some x → ∃ sv : SlV, its[i]? = some (x.1, x.2.1, kind x.2.2.2, from_ x.2.2.2, to_ x.2.2.2, min_ x.2.2.2, max_ x.2.2.2, sv) ∧ KidsAt (FarS n0 B w xL xN xP) w x.2.2.1 (kids x.2.2.2) (val sv)
  pl : qs.length = ps.length
  pr : ∀ (i : Nat) (p : ProdM), ps[i]? = some p → ∃ sv : SlV, qs[i]? = some (p.1, sv) ∧ LO symE w B (val sv) p.2
theorem TwJ.nil (n0 B : Nat) (w : World) : TwJ n0 B w (none, 0, 0) (none, 0, 0) (none, 0, 0) [] [] [] [] [] := ⟨LO.nil _ _, LO.nil _ _, LO.nil _ _, rfl, fun i x h => by simp at h, rfl, fun i x h => by simp at h⟩
section
variable {n0 B : Nat} {w w' : World} {xL xN xP : SlV} {its : List Gs.LexM} {qs : List PrdM} {ls : List LxM} {ns : List ByteArray} {ps : List ProdM}
theorem TwJ.keep (h : TwJ n0 B w xL xN xP its qs ls ns ps) (hk : Kept w w') : TwJ n0 B w' xL xN xP its qs ls ns ps :=
  ⟨h.lex.keep hk, h.nam.keep hk, h.prd.keep hk, h.ll, fun i x hx => by
    obtain ⟨sv, a, b⟩ := h.lr i x hx
    exact ⟨sv, a, KidsAt.mono (hk.holds _) (fun d hd => ⟨hd.1, Nat.lt_of_lt_of_le hd.2.1 hk.size, hd.2.2⟩) _ _ _ b⟩, h.pl, fun i p hp => by
    obtain ⟨sv, a, b⟩ := h.pr i p hp
    exact ⟨sv, a, b.keep hk⟩⟩
theorem TwJ.set (h : TwJ n0 B w xL xN xP its qs ls ns ps) {g o : Nat} {u : Value} (h1 : n0 ≤ g) (h2 : g < B) : TwJ n0 B (w.setCell ⟨g, o, none⟩ u) xL xN xP its qs ls ns ps := by
  have hb : ∀ d, d ≠ g → (w.setCell ⟨g, o, none⟩ u).heap[d]? = w.heap[d]? := fun d hd => Below.heap_setCell _ _ _ _ hd
  have key : ∀ {α : Type} {E : ElK α} {v : Value} {l : List α}, LO E w B v l → LO E (w.setCell ⟨g, o, none⟩ u) B v l := fun hl => hl.same (fun d hd => hb d (by have := (hl.lt' d hd).1; omega))
  refine ⟨key h.lex, key h.nam, key h.prd, h.ll, fun i x hx => ?_, h.pl, fun i p hp => ?_⟩
  · obtain ⟨sv, a, b⟩ := h.lr i x hx
    exact ⟨sv, a, KidsAt.mono (fun b o v hb hc => (set_other (.inl (by have := hb.1; omega))).trans hc) (fun d hd => ⟨hd.1, by simp [World.setCell]; exact hd.2.1, hd.2.2⟩) _ _ _ b⟩
  · obtain ⟨sv, a, b⟩ := h.pr i p hp
    exact ⟨sv, a, key b⟩
theorem far_more {o : Option Nat} {yL yN yP : SlV} (hg : w.grownBy w' o) (ho : ∀ d, FarS n0 B w xL xN xP d → o ≠ some d) (hL : ∀ d, (val yL).ownBlock = some d → (val xL).ownBlock = some d ∨ w.heap.size ≤ d) (hN : ∀ d, (val yN).ownBlock = some d → (val xN).ownBlock = some d ∨ w.heap.size ≤ d) (hP : ∀ d, (val yP).ownBlock = some d → (val xP).ownBlock = some d ∨ w.heap.size ≤ d) {n : Nat} {l : List (PatN n)} {v : Value} (h : KidsAt (FarS n0 B w xL xN xP) w n l v) : KidsAt (FarS n0 B w' yL yN yP) w' n l v :=
  KidsAt.mono (fun b o' x hb hc => hg.cell hc (fun e => ho b hb e.symm)) (fun d hd => ⟨hd.1, Nat.lt_of_lt_of_le hd.2.1 hg.size, fun e => by
    rcases hL d e with h | h
    · exact hd.2.2.1 h
    · have := hd.2.1; omega, fun e => by
    rcases hN d e with h | h
    · exact hd.2.2.2.1 h
    · have := hd.2.1; omega, fun e => by
    rcases hP d e with h | h
    · exact hd.2.2.2.2 h
    · have := hd.2.1; omega⟩) _ _ _ h
theorem TwJ.addL (h : TwJ n0 B w xL xN xP its qs ls ns ps) {g m cap : Nat} {x : LxM} {sv : SlV} (hk : KidsAt (FarS n0 B w xL xN xP) w x.2.2.1 (kids x.2.2.2) (val sv))
    (ho : LO lexE w' B (.slice (some ⟨g, 0, none⟩) m cap) (its ++ [(x.1, x.2.1, kind x.2.2.2, from_ x.2.2.2, to_ x.2.2.2, min_ x.2.2.2, max_ x.2.2.2, sv)])) (hg : w.grownBy w' (val xL).ownBlock) (hor : (val xL).ownBlock = some g ∨ g = w.heap.size) :
    TwJ n0 B w' (some ⟨g, 0, none⟩, m, cap) xN xP (its ++ [(x.1, x.2.1, kind x.2.2.2, from_ x.2.2.2, to_ x.2.2.2, min_ x.2.2.2, max_ x.2.2.2, sv)]) qs (ls ++ [x]) ns ps := by
  have hmv : ∀ {n : Nat} {l : List (PatN n)} {v : Value}, KidsAt (FarS n0 B w xL xN xP) w n l v → KidsAt (FarS n0 B w' (some ⟨g, 0, none⟩, m, cap) xN xP) w' n l v := fun hk => far_more hg (fun d hd => hd.2.2.1) (fun d hd => by
    have e : g = d := Option.some.inj hd
    subst e
    rcases hor with h | h
    · exact .inl h
    · exact .inr (by omega)) (fun d hd => .inl hd) (fun d hd => .inl hd) hk
  refine ⟨ho, lo_othT h.nam h.lex (by decide) hg, lo_othT h.prd h.lex (by decide) hg, by rw [List.length_append, List.length_append, h.ll]; rfl, fun i y hy => ?_, h.pl, fun i p hp => ?_⟩
  · rcases get_snoc hy with hy | ⟨hi, rfl⟩
    · obtain ⟨sv', a, b⟩ := h.lr i y hy
      refine ⟨sv', ?_, hmv b⟩
      rw [List.getElem?_append_left (List.getElem?_eq_some_iff.1 a).1]
      exact a
    · subst hi
      exact ⟨sv, by rw [List.getElem?_append_right (by rw [h.ll]; exact Nat.le_refl _), h.ll, Nat.sub_self]; rfl, hmv hk⟩
  · obtain ⟨sv', a, b⟩ := h.pr i p hp
    exact ⟨sv', a, lo_othT b h.lex (by decide) hg⟩
theorem TwJ.addN (h : TwJ n0 B w xL xN xP its qs ls ns ps) {a' : Option Addr} {m cap : Nat} {ms : List ByteArray} (ho : LO strE w' B (.slice a' m cap) ms) (hg : w.grownBy w' (val xN).ownBlock) (hor : (Value.slice a' m cap).ownBlock = (val xN).ownBlock ∨ (Value.slice a' m cap).ownBlock = some w.heap.size) :
    TwJ n0 B w' xL (a', m, cap) xP its qs ls ms ps := by
  refine ⟨lo_othT h.lex h.nam (by decide) hg, ho, lo_othT h.prd h.nam (by decide) hg, h.ll, fun i y hy => ?_, h.pl, fun i p hp => ?_⟩
  · obtain ⟨sv, a, b⟩ := h.lr i y hy
    refine ⟨sv, a, far_more hg (fun d hd => hd.2.2.2.1) (fun d hd => .inl hd) (fun d hd => ?_) (fun d hd => .inl hd) b⟩
    rcases hor with e | e
    · exact .inl (e ▸ hd)
    · have hd' : (Value.slice a' m cap).ownBlock = some d := hd
      rw [e] at hd'
      exact .inr (by have := Option.some.inj hd'; omega)
  · obtain ⟨sv, a, b⟩ := h.pr i p hp
    exact ⟨sv, a, lo_othT b h.nam (by decide) hg⟩
theorem TwJ.addP (h : TwJ n0 B w xL xN xP its qs ls ns ps) {g m cap : Nat} {p : ProdM} {sv : SlV} (hk : LO symE w B (val sv) p.2)
    (ho : LO prdE w' B (.slice (some ⟨g, 0, none⟩) m cap) (qs ++ [(p.1, sv)])) (hg : w.grownBy w' (val xP).ownBlock) (hor : (val xP).ownBlock = some g ∨ g = w.heap.size) :
    TwJ n0 B w' xL xN (some ⟨g, 0, none⟩, m, cap) its (qs ++ [(p.1, sv)]) ls ns (ps ++ [p]) := by
  refine ⟨lo_othT h.lex h.prd (by decide) hg, lo_othT h.nam h.prd (by decide) hg, ho, h.ll, fun i y hy => ?_, by rw [List.length_append, List.length_append, h.pl]; rfl, fun i q hq => ?_⟩
  · obtain ⟨sv', a, b⟩ := h.lr i y hy
    refine ⟨sv', a, far_more hg (fun d hd => hd.2.2.2.2) (fun d hd => .inl hd) (fun d hd => .inl hd) (fun d hd => ?_) b⟩
    have e : g = d := Option.some.inj hd
    subst e
    rcases hor with h | h
    · exact .inl h
    · exact .inr (by omega)
  · rcases get_snoc hq with hq | ⟨hi, rfl⟩
    · obtain ⟨sv', a, b⟩ := h.pr i q hq
      refine ⟨sv', ?_, lo_othT b h.prd (by decide) hg⟩
      rw [List.getElem?_append_left (List.getElem?_eq_some_iff.1 a).1]
      exact a
    · subst hi
      exact ⟨sv, by rw [List.getElem?_append_right (by rw [h.pl]; exact Nat.le_refl _), h.pl, Nat.sub_self]; rfl, lo_othT hk h.prd (by decide) hg⟩
theorem kept_grB {w0 : World} {α : Type} {E : ElK α} {v : Value} {l : List α} (h : Kept w0 w) (hB : w0.heap.size ≤ B) (ho : LO E w B v l) (hg : w.grownBy w' v.ownBlock) : Kept w0 w' :=
  ⟨hg.os.trans h.1, hg.tape.trans h.2.1, hg.output.trans h.2.2.1, Nat.le_trans h.size hg.size, fun k hk => (hg.block k (Nat.lt_of_lt_of_le hk h.size) (fun e => by have := (ho.lt' k e.symm).1; omega)).trans (h.2.2.2.2 k hk)⟩
theorem box_gr {α : Type} {E : ElK α} {v : Value} {l : List α} {d : Nat} (ho : LO E w B v l) (hg : w.grownBy w' v.ownBlock) (hd : d < B) (hl : d < w.heap.size) : w'.heap[d]? = w.heap[d]? := hg.block d hl (fun e => by have := (ho.lt' d e.symm).1; omega)
end
def TwO (n0 : Nat) (w : World) (xL xN xP : SlV) (sp : SpV) : Prop := ∃ B its qs, n0 ≤ B ∧ B ≤ w.heap.size ∧ TwJ n0 B w xL xN xP its qs sp.lex sp.nam sp.prd
theorem TwO.keep {n0 : Nat} {w w' : World} {xL xN xP : SlV} {sp : SpV} (h : TwO n0 w xL xN xP sp) (hk : Kept w w') : TwO n0 w' xL xN xP sp := by
  obtain ⟨B, its, qs, h1, h3, h2⟩ := h
  exact ⟨B, its, qs, h1, Nat.le_trans h3 hk.size, h2.keep hk⟩
theorem TwO.rd {n0 : Nat} {w : World} {xL xN xP : SlV} {sp : SpV} (h : TwO n0 w xL xN xP sp) (hz : SzV sp) (h5 : ∀ x ∈ sp.lex, x.1.size ≤ 200000000000000) (h6 : ∀ x ∈ sp.nam, x.size ≤ 200000000000000) : SpR w (val xL) (val xN) (val xP) sp := by
  obtain ⟨B, its, qs, _, _, h⟩ := h
  obtain ⟨z1, z2, z3, z4⟩ := hz
  refine ⟨?_, ?_, ?_⟩
  · refine lo_slice (E := lexE) h.lex rfl h.ll (by rw [h.ll]; omega) (fun i x y hx hy => ?_)
    obtain ⟨sv, h7, h8⟩ := h.lr i y hy
    rw [hx] at h7
    cases h7
    exact ⟨val sv, rfl, h5 y (List.mem_of_getElem? hy), KidsAt.mono (fun _ _ _ _ h => h) (fun d hd => hd.2.1) _ _ _ h8⟩
  · refine lo_slice (E := strE) h.nam rfl rfl (by omega) (fun i x y hx hy => ?_)
    have e : some x = some y := hx.symm.trans hy
    cases e
    exact ⟨rfl, h6 x (List.mem_of_getElem? hx)⟩
  · refine lo_slice (E := prdE) h.prd rfl h.pl (by rw [h.pl]; omega) (fun i x y hx hy => ?_)
    obtain ⟨sv, h7, h8⟩ := h.pr i y hy
    rw [hx] at h7
    cases h7
    have hm := List.mem_of_getElem? hy
    exact ⟨val sv, rfl, lo_slice (E := symE) h8 rfl rfl (by have := z4 y hm; omega) (fun j a b ha hb => by rw [ha] at hb; cases hb; rfl)⟩
theorem src_cells {α : Type} {E : ElK α} {w : World} {c : Nat} : ∀ (xs : List α) (o : Nat), (∀ (i : Nat) (x : α), xs[i]? = some x → ∀ (r : Nat) (u : Value), (E.enc x)[r]? = some u → w.cell? ⟨c, o + i * E.sz + r, none⟩ = some u) → ∀ (j : Nat) (u : Value), (flatE E xs)[j]? = some u → w.cell? ⟨c, o + j, none⟩ = some u
  | [], o, h, j, u, hj => by simp [flatE] at hj
  | x :: l, o, h, j, u, hj => by
    have e : flatE E (x :: l) = E.enc x ++ flatE E l := by unfold flatE; simp
    rw [e] at hj
    by_cases hl : j < E.sz
    · rw [List.getElem?_append_left (by rw [E.len]; exact hl)] at hj
      have := h 0 x rfl j u hj
      rw [Nat.zero_mul, Nat.add_zero] at this
      exact this
    · rw [List.getElem?_append_right (by rw [E.len]; omega), E.len] at hj
      have := src_cells l (o + E.sz) (fun i y hi r v hr => by
        have := h (i + 1) y hi r v hr
        rw [Nat.add_mul, Nat.one_mul] at this
        rw [show o + E.sz + i * E.sz + r = o + (i * E.sz + E.sz) + r by omega]
        exact this) (j - E.sz) u hj
      rw [show o + E.sz + (j - E.sz) = o + j by omega] at this
      exact this
theorem src_of {α : Type} {E : ElK α} {El : List Value → α → Prop} {w : World} {a : Option Addr} {n c : Nat} {xs : List α} (h : SliceOf w E.sz El (.slice a n c) xs) (he : ∀ cs x, El cs x → cs = E.enc x) : Src E w a xs := by
  obtain ⟨a', cap, e, _, _, h5⟩ := h
  simp only [Value.slice.injEq] at e
  obtain ⟨rfl, _, _⟩ := e
  rcases h5 with h5 | ⟨c', o, rfl, h7, h8⟩
  · exact .inl h5
  · refine .inr ⟨c', o, rfl, src_cells xs o (fun i x hi r u hr => ?_)⟩
    obtain ⟨cs, _, h9, h10⟩ := h8 i x hi
    rw [he cs x h10] at h9
    exact h9 r u hr
theorem names_src {w : World} {a : Option Addr} {n c : Nat} {ns : List ByteArray} (h : NamesAt w (.slice a n c) ns) : Src strE w a ns := src_of (E := strE) h (fun _ _ h => h.1)
theorem right_src {w : World} {a : Option Addr} {n c : Nat} {row : List SymM} (h : RightAt w (.slice a n c) row) : Src symE w a row := src_of (E := symE) h (fun _ _ h => h)
end Gu
end Ex
end Go.Proofs.YtbnchnlogikecaaGreatDoor
namespace Go.Proofs.YtbnchnlogikecaaGreatDoor
open Go.ChangeShapes Go.WideShapes Go.ChangeAt Go.RowKit
set_option linter.unusedVariables false
namespace Ex
namespace Gu
open Sh Gs
def spM {k : Nat} (sp : SpecM k) : SpV := { lex := sp.1.map fun x => (x.1, x.2.1, ⟨k, x.2.2⟩), nam := sp.2.1, start := sp.2.2.1, prd := sp.2.2.2 }
theorem slice_map {α β : Type} {w : World} {sz : Nat} {El : List Value → α → Prop} {El' : List Value → β → Prop} {v : Value} {xs : List α} (f : α → β) (h : SliceOf w sz El v xs) (hf : ∀ cs x, El cs x → El' cs (f x)) : SliceOf w sz El' v (xs.map f) := by
  obtain ⟨a, cap, h1, h2, h3, h4⟩ := h
  refine ⟨a, cap, by rw [List.length_map]; exact h1, by rw [List.length_map]; exact h2, by rw [List.length_map]; exact h3, ?_⟩
  rcases h4 with h4 | ⟨c, o, h5, h6, h7⟩
  · exact .inl (by rw [h4]; rfl)
  · refine .inr ⟨c, o, h5, h6, fun i y hy => ?_⟩
    rw [List.getElem?_map] at hy
    obtain ⟨x, hx, rfl⟩ := Option.map_eq_some_iff.1 hy
    obtain ⟨cs, g1, g2, g3⟩ := h7 i x hx
    exact ⟨cs, g1, g2, hf cs x g3⟩
theorem spec_in {W : World} {k : Nat} {cs : List Value} {sp : SpecM k} (h : SpecSz W k cs sp) : ∃ la lc na nc pa pc, cs = [.slice la sp.1.length lc, .slice na sp.2.1.length nc, .int .i64 (spM sp).start, .slice pa sp.2.2.2.length pc] ∧ SpR W (.slice la sp.1.length lc) (.slice na sp.2.1.length nc) (.slice pa sp.2.2.2.length pc) (spM sp) ∧ SzV (spM sp) := by
  obtain ⟨⟨vl, vn, vp, rfl, h1, h2, h3⟩, z1, z2, z3, z4⟩ := h
  obtain ⟨la, lc, rfl, _⟩ := SliceOf.len0 h1
  obtain ⟨na, nc, rfl, _⟩ := SliceOf.len0 h2
  obtain ⟨pa, pc, rfl, _⟩ := SliceOf.len0 h3
  refine ⟨la, lc, na, nc, pa, pc, rfl, ⟨slice_map _ h1 (fun cs x ⟨v', a, b, c⟩ => ⟨v', a, b, c⟩), h2, h3⟩, ?_, z2, z3, z4⟩
  show (sp.1.map _).length * 88 ≤ _
  rw [List.length_map]
  exact z1
theorem spec_arg6 {H : Type} {enc : TypeId × Value → H} {W : World} {v : Value} {d : DataW H} {p : List MemPlace} (hv : ∃ cs, v = .agg cs ∧ cs.size = Tryz.prog.cellsOf 27) (h : DataW.Trod enc Tryz.prog W 0 (fun _ => true) true 27 v d p) (hz : ∀ n ∈ d.weights Tryz.prog 27, n ≤ reachBytes) :
    ∃ (la na pa : Option Addr) (ln lc nn nc pn pc : Nat) (sp : SpV), v = .agg #[.slice la ln lc, .slice na nn nc, .int .i64 sp.start, .slice pa pn pc] ∧ SpR W (.slice la ln lc) (.slice na nn nc) (.slice pa pn pc) sp ∧ SzV sp := by
  obtain ⟨cs, rfl, hcs⟩ := hv
  rw [spec_size] at hcs
  obtain ⟨fuel, hf⟩ := h
  obtain ⟨sp, hsp⟩ := spec_sz (k := fuel) (Nat.le_refl _) (cs := cs.toList) (by rw [Array.length_toList]; exact hcs) hf hz
  obtain ⟨la, lc, na, nc, pa, pc, e, h1, h2⟩ := spec_in hsp
  have ecs : cs = #[.slice la sp.1.length lc, .slice na sp.2.1.length nc, .int .i64 (spM sp).start, .slice pa sp.2.2.2.length pc] := by cases cs; simp_all
  exact ⟨la, na, pa, _, lc, _, nc, _, pc, spM sp, by rw [ecs], h1, h2⟩
end Gu
end Ex
end Go.Proofs.YtbnchnlogikecaaGreatDoor
namespace Go.Proofs.YtbnchnlogikecaaGreatDoor
open Go.RowKit Go.ChangeShapes Go.WideShapes Go.ChangeAt
set_option linter.unusedVariables false
set_option maxRecDepth 100000
namespace Ex
namespace Gu
open Sh Gs
theorem bulk_pos {H : Type} (d : DataW H) : 1 ≤ Rows.uptoBulk d := by
  cases d with
  | lit l => cases l <;> simp [Rows.uptoBulk]
  | _ => simp [Rows.uptoBulk]
theorem bulk_len {H : Type} (l : List (DataW H)) : l.length ≤ Rows.uptoBulkAll l := by
  induction l with
  | nil => simp [Rows.uptoBulkAll]
  | cons x r ih =>
    have := bulk_pos x
    simp only [Rows.uptoBulkAll, List.length_cons]
    omega
theorem bulk_mem {H : Type} {d : DataW H} {l : List (DataW H)} (h : d ∈ l) : Rows.uptoBulk d ≤ Rows.uptoBulkAll l := by
  induction l with
  | nil => cases h
  | cons x r ih =>
    simp only [Rows.uptoBulkAll]
    rcases List.mem_cons.1 h with e | e
    · subst e
      omega
    · have := ih e
      omega
theorem bulk_field {H : Type} {d : DataW H} {l : List (DataW H)} (h : d ∈ l) : Rows.uptoBulk d ≤ Rows.uptoBulk (.agg l) := by
  have := bulk_mem h
  simp only [Rows.uptoBulk]
  omega
section
variable {H : Type} {enc : TypeId × Value → H}
theorem len_up {t e : TypeId} (ht : Tryz.prog.underlying t = some (.slice e)) {W : World} {fuel : Nat} {a : Option Addr} {n c : Nat} {x : DataW H × List MemPlace} (h : DataW.trod enc Tryz.prog W 0 (fun _ => true) true fuel t [.slice a n c] = some x) (hb : Rows.uptoBulk x.1 ≤ 1048576) : n ≤ 1048576 := by
  rcases DataW.trod_slice ht h with ⟨hcs, _⟩ | ⟨a', len, cap, elems, rest, n', hn, hcs, hx, _, hl, hm, hlen, hall, _, _⟩
  · simp only [List.cons.injEq, and_true] at hcs
    cases hcs
    omega
  · simp only [List.cons.injEq, and_true] at hcs
    cases hcs
    subst hx
    have h1 : Rows.uptoBulk (DataW.slice (elems.map (·.1)) (rest.map (·.1))) ≤ 1048576 := hb
    have h2 := bulk_len (H := H) (elems.map (·.1))
    rw [List.length_map, hlen] at h2
    simp only [Rows.uptoBulk] at h1
    omega
def NmEl (cs : List Value) (s : ByteArray) : Prop := cs[0]? = some (.string s) ∧ s.size ≤ 140737488351232
theorem nm_str {W : World} {fuel : Nat} {cs : List Value} {y : DataW H × List MemPlace} (h : DataW.trod enc Tryz.prog W 0 (fun _ => true) true fuel 9 cs = some y) (hz : ∀ n ∈ y.1.weights Tryz.prog 9, n ≤ reachBytes) : ∃ s, NmEl cs s := by
  obtain ⟨s, e1, e2, _⟩ := DataW.trod_string Tryz.underlying9 h
  subst e2
  have hw := hz s.data.toList.length (by simp [DataW.weights])
  have hs : s.data.toList.length = s.size := by rw [Array.length_toList]; rfl
  rw [hs] at hw
  exact ⟨s, by rw [e1]; rfl, by unfold reachBytes at hw; omega⟩
theorem nm_lex {W : World} {fuel : Nat} {cs : List Value} {y : DataW H × List MemPlace} (hl : cs.length = 8) (h : DataW.trod enc Tryz.prog W 0 (fun _ => true) true fuel 72 cs = some y) (hz : ∀ n ∈ y.1.weights Tryz.prog 72, n ≤ reachBytes) : ∃ s, NmEl cs s := by
  obtain ⟨xs, n', hn', hx1, _, hx3, hx4⟩ := DataW.trod_struct Tryz.underlying72 h
  obtain ⟨v0, v1, v2, v3, v4, v5, v6, v7, rfl⟩ := eight_l hl
  obtain ⟨y0, y1, y2, rfl⟩ := three_l hx3
  have f0 : DataW.trod enc Tryz.prog W 0 (fun _ => true) true n' 9 [v0] = some y0 := by have := hx4 0 _ rfl; simpa [nam_size] using this
  subst hx1
  obtain ⟨s, q1, q2⟩ := nm_str f0 (fun n hn => hz n (weights_agg Tryz.underlying72 _ 0 _ y0.1 rfl rfl n hn))
  exact ⟨s, q1, q2⟩
theorem nm_names {W : World} {fuel : Nat} {v : Value} {y : DataW H × List MemPlace} (h : DataW.trod enc Tryz.prog W 0 (fun _ => true) true fuel 24 [v] = some y) (hz : ∀ n ∈ y.1.weights Tryz.prog 24, n ≤ reachBytes) : ∃ r, SliceOf W 1 NmEl v r :=
  (slice_sized ByteArray.empty Tryz.underlying24 1 16 nam_size (by decide) nam_bytes (by decide) NmEl h hz (fun _ _ _ _ _ hh hz2 => nm_str hh hz2)).imp fun _ h => h.1
theorem nm_lexs {W : World} {fuel : Nat} {v : Value} {y : DataW H × List MemPlace} (h : DataW.trod enc Tryz.prog W 0 (fun _ => true) true fuel 23 [v] = some y) (hz : ∀ n ∈ y.1.weights Tryz.prog 23, n ≤ reachBytes) : ∃ r, SliceOf W 8 NmEl v r :=
  (slice_sized ByteArray.empty Tryz.underlying23 8 88 lex_size (by decide) lex_bytes (by decide) NmEl h hz (fun _ _ _ _ hl hh hz2 => nm_lex hl hh hz2)).imp fun _ h => h.1
theorem slice_both {α β : Type} {w : World} {sz : Nat} {El : List Value → α → Prop} {El' : List Value → β → Prop} {v : Value} {xs : List α} {ys : List β} (h : SliceOf w sz El v xs) (h' : SliceOf w sz El' v ys) {x : α} (hx : x ∈ xs) : ∃ cs y, y ∈ ys ∧ El cs x ∧ El' cs y := by
  obtain ⟨a, cap, e, h1, h2, h3⟩ := h
  obtain ⟨a', cap', e', h1', h2', h3'⟩ := h'
  rw [e] at e'
  injection e' with e1 e2 e3
  obtain ⟨i, hi⟩ := List.getElem?_of_mem hx
  have hil := (List.getElem?_eq_some_iff.1 hi).1
  rcases h3 with h3 | ⟨c, o, ea, hc, hel⟩
  · subst h3; cases hx
  rcases h3' with h3' | ⟨c', o', ea', hc', hel'⟩
  · subst h3'
    simp at e2
    subst e2
    cases hx
  obtain ⟨y, hy⟩ : ∃ y, ys[i]? = some y := ⟨_, List.getElem?_eq_getElem (by omega)⟩
  obtain ⟨cs, g1, g2, g3⟩ := hel i x hi
  obtain ⟨cs', g1', g2', g3'⟩ := hel' i y hy
  rw [ea, ea'] at e1
  cases e1
  have ecs : cs = cs' := by
    apply List.ext_getElem?
    intro j
    by_cases hj : j < sz
    · obtain ⟨u, hu⟩ : ∃ u, cs[j]? = some u := ⟨_, List.getElem?_eq_getElem (by omega)⟩
      obtain ⟨u', hu'⟩ : ∃ u, cs'[j]? = some u := ⟨_, List.getElem?_eq_getElem (by omega)⟩
      have q1 := g2 j u hu
      have q2 := g2' j u' hu'
      rw [q1] at q2
      cases q2
      rw [hu, hu']
    · rw [List.getElem?_eq_none (by omega), List.getElem?_eq_none (by omega)]
  subst ecs
  exact ⟨cs, y, List.mem_of_getElem? hy, g3, g3'⟩
theorem spec_up {W : World} {v : Value} {d : DataW H} {p : List MemPlace} (hv : ∃ cs, v = .agg cs ∧ cs.size = Tryz.prog.cellsOf 27) (h : DataW.Trod enc Tryz.prog W 0 (fun _ => true) true 27 v d p) (hz : ∀ n ∈ d.weights Tryz.prog 27, n ≤ reachBytes) (hb : Rows.uptoBulk d ≤ 1048576) :
    ∃ (la na pa : Option Addr) (ln lc nn nc pn pc : Nat) (sp : SpV), v = .agg #[.slice la ln lc, .slice na nn nc, .int .i64 sp.start, .slice pa pn pc] ∧ SpR W (.slice la ln lc) (.slice na nn nc) (.slice pa pn pc) sp ∧ SzV sp ∧ sp.lex.length + 2 + sp.nam.length ≤ 4000000000000 ∧ (∀ x ∈ sp.lex, x.1.size ≤ 140737488351232) ∧ ∀ x ∈ sp.nam, x.size ≤ 140737488351232 := by
  obtain ⟨la, na, pa, ln, lc, nn, nc, pn, pc, sp, rfl, h1, h2⟩ := spec_arg6 hv h hz
  refine ⟨la, na, pa, ln, lc, nn, nc, pn, pc, sp, rfl, h1, h2, ?_⟩
  obtain ⟨fuel, hf⟩ := h
  have hf2 : DataW.trod enc Tryz.prog W 0 (fun _ => true) true fuel 27 [.slice la ln lc, .slice na nn nc, .int .i64 sp.start, .slice pa pn pc] = some (d, p) := hf
  obtain ⟨xs, n', hn', hx1, _, hx3, hx4⟩ := DataW.trod_struct Tryz.underlying27 hf2
  obtain ⟨y0, y1, y2, y3, rfl⟩ := four_l hx3
  have f0 : DataW.trod enc Tryz.prog W 0 (fun _ => true) true n' 23 [.slice la ln lc] = some y0 := by have := hx4 0 _ rfl; simpa [lexs_size] using this
  have f1 : DataW.trod enc Tryz.prog W 0 (fun _ => true) true n' 24 [.slice na nn nc] = some y1 := by have := hx4 1 _ rfl; simpa [nams_size] using this
  have hx1' : d = .agg [y0.1, y1.1, y2.1, y3.1] := congrArg (·.1) hx1
  subst hx1'
  have b0 : Rows.uptoBulk y0.1 ≤ 1048576 := Nat.le_trans (bulk_field (by simp)) hb
  have b1 : Rows.uptoBulk y1.1 ≤ 1048576 := Nat.le_trans (bulk_field (by simp)) hb
  obtain ⟨r0, s0⟩ := nm_lexs f0 (fun n hn => hz n (weights_agg Tryz.underlying27 _ 0 _ y0.1 rfl rfl n hn))
  obtain ⟨r1, s1⟩ := nm_names f1 (fun n hn => hz n (weights_agg Tryz.underlying27 _ 1 _ y1.1 rfl rfl n hn))
  have l0 := len_up Tryz.underlying23 f0 b0
  have l1 := len_up Tryz.underlying24 f1 b1
  have e0 : sp.lex.length = ln := by obtain ⟨_, _, e1, _⟩ := h1.1; injection e1 with _ e2 _; exact e2.symm
  have e1 : sp.nam.length = nn := by obtain ⟨_, _, e1, _⟩ := h1.2.1; injection e1 with _ e2 _; exact e2.symm
  refine ⟨by omega, fun x hx => ?_, fun x hx => ?_⟩
  · obtain ⟨cs, y, _, ⟨v', ecs, _, _⟩, q1, q2⟩ := slice_both h1.1 s0 hx
    rw [ecs] at q1
    have e : x.1 = y := by simpa using q1
    rw [e]
    exact q2
  · obtain ⟨cs, y, _, ⟨ecs, _⟩, q1, q2⟩ := slice_both h1.2.1 s1 hx
    rw [ecs] at q1
    have e : x = y := by simpa using q1
    rw [e]
    exact q2
end
end Gu
end Ex
end Go.Proofs.YtbnchnlogikecaaGreatDoor
