import Derived.Test.YtooelfjceehmmaaDoorMSpQf
namespace Go.Proofs.YtooelfjceehmmaaDoor
open Go.RowKit
attribute [local go_sem] Oper.semAt_some
namespace Ex

section
variable (k : Nat) (lex : List (LexM k)) (ps : List ProdM) (al an ap : Option Addr) (nl cl nn cn np cp : Nat) (st : Int)
/-- A call of a spec in order: a list of so many, and no fault. -/
def OkR (Ok : Value → World → Prop) (n : Nat) (w : World) (e : Ending) (w' : World) : Prop := ∃ g, e = .returned (.tuple #[.slice (some ⟨g, 0, none⟩) n n, .agg #[.int .i64 0, .int .i64 0, .string ⟨#[]⟩]]) ∧ Ok (.slice (some ⟨g, 0, none⟩) n n) w' ∧ Kept w w'
theorem null_ok (w : World) (hnn : nn ≤ 17592186044416) (hlex : lex.length = nl) (hps : ps.length = np) (hl : LexAt w k (.slice al nl cl) lex) (hp : ProdsAt w (.slice ap np cp) ps) (hT : TabAt w) (hq : CheckQ lex ps nn nl st (0, 0)) : Calls Tryd.prog 19 #[.agg #[.slice al nl cl, .slice an nn cn, .int .i64 st, .slice ap np cp]] w (OkR (NullOk ps nn w.heap.size) nn w) := by
  refine (sNull_is k lex ps al an ap nl cl nn cn np cp st w hnn hlex hps hl hp hT).mono ?_
  rintro e w' ⟨x, hx, hk, h⟩
  have e0 := checkQ_one hx hq
  subst e0
  rcases h with ⟨h, _⟩ | ⟨_, v, rfl, E, hE, g, rfl, h3, h4⟩
  · exact absurd rfl h
  · have hl : ((List.range nn).map fun i => E.testBit i).length = nn := by rw [List.length_map, List.length_range]
    refine ⟨g, ?_, ⟨E, hE, g, ?_, h3, h4⟩, hk⟩
    · rw [hl]; rfl
    · rw [hl]
theorem first_ok (w : World) (hnn : nn ≤ 17592186044416) (hlex : lex.length = nl) (hps : ps.length = np) (hl : LexAt w k (.slice al nl cl) lex) (hp : ProdsAt w (.slice ap np cp) ps) (hT : TabAt w) (hq : CheckQ lex ps nn nl st (0, 0)) : Calls Tryd.prog 20 #[.agg #[.slice al nl cl, .slice an nn cn, .int .i64 st, .slice ap np cp]] w (OkR (FirstOk nl ps nn w.heap.size) nn w) := by
  refine (sFirst_is k lex ps al an ap nl cl nn cn np cp st w hnn hlex hps hl hp hT).mono ?_
  rintro e w' ⟨x, hx, hk, h⟩
  have e0 := checkQ_one hx hq
  subst e0
  rcases h with ⟨h, _⟩ | ⟨_, v, rfl, F, hF1, hF2, hR⟩
  · exact absurd rfl h
  · obtain ⟨g, hg⟩ := hR.form
    have hl : ((List.range nn).map fun i => bitsTo (F i) 128).length = nn := by rw [List.length_map, List.length_range]
    rw [hl] at hg
    subst hg
    exact ⟨g, rfl, ⟨F, hF1, hF2, hR⟩, hk⟩
theorem follow_ok (w : World) (hnn : nn ≤ 17592186044416) (hlex : lex.length = nl) (hps : ps.length = np) (hl : LexAt w k (.slice al nl cl) lex) (hp : ProdsAt w (.slice ap np cp) ps) (hT : TabAt w) (hq : CheckQ lex ps nn nl st (0, 0)) : Calls Tryd.prog 21 #[.agg #[.slice al nl cl, .slice an nn cn, .int .i64 st, .slice ap np cp]] w (OkR (FollowOk nl st.toNat ps nn w.heap.size) nn w) := by
  refine (sFollow_is k lex ps al an ap nl cl nn cn np cp st w hnn hlex hps hl hp hT).mono ?_
  rintro e w' ⟨x, hx, hk, h⟩
  have e0 := checkQ_one hx hq
  subst e0
  rcases h with ⟨h, _⟩ | ⟨_, v, rfl, F, G, hF1, hF2, hF3, hR⟩
  · exact absurd rfl h
  · obtain ⟨g, hg⟩ := hR.form
    have hl : ((List.range nn).map fun i => bitsTo (G i) 128).length = nn := by rw [List.length_map, List.length_range]
    rw [hl] at hg
    subst hg
    exact ⟨g, rfl, ⟨F, G, hF1, hF2, hF3, hR⟩, hk⟩
/-- Yields: a list of so many and no fault, or none and a fault. -/
def YokR (w : World) (e : Ending) (w' : World) : Prop := ∃ (a : Option Addr) (m : Nat) (ye ya : Int), e = .returned (.tuple #[.slice a m m, .agg #[.int .i64 ye, .int .i64 ya, .string ⟨#[]⟩]]) ∧ YldO nl ps nn w.heap.size (ye, ya) (.slice a m m) w' ∧ ((ye = 0 ∧ m = nn) ∨ (ye = 6 ∧ m = 0)) ∧ Kept w w'
theorem yields_ok (w : World) (hnn : nn ≤ 17592186044416) (hlex : lex.length = nl) (hps : ps.length = np) (hl : LexAt w k (.slice al nl cl) lex) (hp : ProdsAt w (.slice ap np cp) ps) (hT : TabAt w) (hq : CheckQ lex ps nn nl st (0, 0)) : Calls Tryd.prog 22 #[.agg #[.slice al nl cl, .slice an nn cn, .int .i64 st, .slice ap np cp]] w (YokR ps nl nn w) := by
  refine (sYields_is k lex ps al an ap nl cl nn cn np cp st w hnn hlex hps hl hp hT).mono ?_
  rintro e w' ⟨x, hx, hk, h⟩
  have e0 := checkQ_one hx hq
  subst e0
  rcases h with ⟨h, _⟩ | ⟨_, y, v, rfl, L, hL1, hL2, hor⟩
  · exact absurd rfl h
  · rcases hor with ⟨i, h1, h2, h3, rfl, rfl⟩ | ⟨h1, rfl, hR⟩
    · exact ⟨none, 0, 6, (i : Int), rfl, ⟨L, hL1, hL2, .inl ⟨i, h1, h2, h3, rfl, rfl⟩⟩, .inr ⟨rfl, rfl⟩, hk⟩
    · obtain ⟨g, hg⟩ := hR.form
      have hl : ((List.range nn).map fun i => (L i).getD []).length = nn := by rw [List.length_map, List.length_range]
      rw [hl] at hg
      subst hg
      exact ⟨some ⟨g, 0, none⟩, nn, 0, 0, rfl, ⟨L, hL1, hL2, .inr ⟨h1, rfl, hR⟩⟩, .inl ⟨rfl, rfl⟩, hk⟩
end
/-- All that is told of a spec, in a box. -/
def TdBox (w : World) (b : Nat) (x0 x1 x2 x3 : Value) (f : Bool) : Prop := w.heap[b]? = some (.cells #[x0, x1, x2, x3, .bool f] 30 (0, 0))
section
variable {w w' : World} {b c : Nat} {x0 x1 x2 x3 : Value} {f : Bool}
theorem TdBox.lt (h : TdBox w b x0 x1 x2 x3 f) : b < w.heap.size := (Array.getElem?_eq_some_iff.1 h).1
theorem TdBox.keep (h : TdBox w b x0 x1 x2 x3 f) (hk : Kept w w') : TdBox w' b x0 x1 x2 x3 f := (hk.2.2.2.2 b h.lt).trans h
theorem TdBox.but (h : TdBox w b x0 x1 x2 x3 f) (hk : KeptBut c w w') (hc : b ≠ c) : TdBox w' b x0 x1 x2 x3 f := (hk.2.2.2.2 b h.lt hc).trans h
theorem TdBox.cells (h : TdBox w b x0 x1 x2 x3 f) : (w.cell? ⟨b, 0, none⟩ = some x0 ∧ w.cell? ⟨b, 1, none⟩ = some x1 ∧ w.cell? ⟨b, 2, none⟩ = some x2 ∧ w.cell? ⟨b, 3, none⟩ = some x3 ∧ w.cell? ⟨b, 4, none⟩ = some (.bool f)) ∧ w.frozen? ⟨b, 0, none⟩ = false ∧ w.frozen? ⟨b, 1, none⟩ = false ∧ w.frozen? ⟨b, 2, none⟩ = false ∧ w.frozen? ⟨b, 3, none⟩ = false ∧ w.frozen? ⟨b, 4, none⟩ = false := by
  unfold TdBox at h
  refine ⟨⟨?_, ?_, ?_, ?_, ?_⟩, ?_, ?_, ?_, ?_, ?_⟩ <;> simp [World.cell?, World.frozen?, h]
theorem TdBox.fill (h : TdBox w b x0 x1 x2 x3 f) (y0 y1 y2 y3 : Value) (q : Bool) : TdBox (((((w.setCell ⟨b, 0, none⟩ y0).setCell ⟨b, 1, none⟩ y1).setCell ⟨b, 2, none⟩ y2).setCell ⟨b, 3, none⟩ y3).setCell ⟨b, 4, none⟩ (.bool q)) b y0 y1 y2 y3 q := by
  unfold TdBox at h ⊢
  have hl : b < w.heap.size := (Array.getElem?_eq_some_iff.1 h).1
  have he : w.heap[b] = Obj.cells #[x0, x1, x2, x3, .bool f] 30 (0, 0) := by rw [Array.getElem?_eq_getElem hl] at h; exact Option.some.inj h
  simp [World.setCell, Array.getElem_modify, hl, he]
theorem td_size (x0 x1 x2 x3 x4 : Value) : (Tryd.prog.info? 30).map (·.size) = some (#[x0, x1, x2, x3, x4]).size := by
  show _ = some 5
  kernel_rfl
end
theorem results_row_tmp2 {P : Program} {fn : Func} {p u v : Tmp} {ty : TypeId} (h : fn.results = #[.cell p ty, .tmp u, .tmp v]) (tmps : Array Value) (w : World) (g : Nat) (t : TypeId) (cs : Array Value) (fr : Nat × Nat) (d : TypeDesc)
    (hp : tmps.getD p undef = .pointer (some ⟨g, 0, none⟩)) (hg : w.heap[g]? = some (.cells cs t fr))
    (hu : P.underlying ty = some d) (hd : (match d with | .struct _ | .array _ _ => true | _ => false) = true) (hi : (P.info? ty).map (·.size) = some cs.size) :
    (results fn tmps).run P w = .ok (.tuple #[.agg cs, tmps.getD u undef, tmps.getD v undef]) w := by
  have hp' : tmps[p]?.getD undef = .pointer (some ⟨g, 0, none⟩) := by simpa using hp
  simp [results, h, hp', asAddr, run_loadVar_row w g t ty cs fr d hg hu hd hi]
theorem td_start (w : World) (x0 x1 x2 x3 : Value) : SBox (((w.alloc (.cells #[x0, x1, x2, x3] 26)).alloc (.cells #[.slice none 0 0, .slice none 0 0, .slice none 0 0, .slice none 0 0, .bool false] 30)).alloc (.cells #[.slice none 0 0, .slice none 0 0, .slice none 0 0, .slice none 0 0, .bool false] 30)) w.heap.size x0 x1 x2 x3 ∧ TdBox (((w.alloc (.cells #[x0, x1, x2, x3] 26)).alloc (.cells #[.slice none 0 0, .slice none 0 0, .slice none 0 0, .slice none 0 0, .bool false] 30)).alloc (.cells #[.slice none 0 0, .slice none 0 0, .slice none 0 0, .slice none 0 0, .bool false] 30)) (w.heap.size + 1) (.slice none 0 0) (.slice none 0 0) (.slice none 0 0) (.slice none 0 0) false ∧ TdBox (((w.alloc (.cells #[x0, x1, x2, x3] 26)).alloc (.cells #[.slice none 0 0, .slice none 0 0, .slice none 0 0, .slice none 0 0, .bool false] 30)).alloc (.cells #[.slice none 0 0, .slice none 0 0, .slice none 0 0, .slice none 0 0, .bool false] 30)) (w.heap.size + 1 + 1) (.slice none 0 0) (.slice none 0 0) (.slice none 0 0) (.slice none 0 0) false ∧ Kept w (((w.alloc (.cells #[x0, x1, x2, x3] 26)).alloc (.cells #[.slice none 0 0, .slice none 0 0, .slice none 0 0, .slice none 0 0, .bool false] 30)).alloc (.cells #[.slice none 0 0, .slice none 0 0, .slice none 0 0, .slice none 0 0, .bool false] 30)) := by
  have h1 := heap_alloc_new (w.alloc (.cells #[x0, x1, x2, x3] 26)) (.cells #[.slice none 0 0, .slice none 0 0, .slice none 0 0, .slice none 0 0, .bool false] 30)
  have h2 := heap_alloc_new ((w.alloc (.cells #[x0, x1, x2, x3] 26)).alloc (.cells #[.slice none 0 0, .slice none 0 0, .slice none 0 0, .slice none 0 0, .bool false] 30)) (.cells #[.slice none 0 0, .slice none 0 0, .slice none 0 0, .slice none 0 0, .bool false] 30)
  rw [World.size_alloc] at h1
  rw [World.size_alloc, World.size_alloc] at h2
  exact ⟨((SBox.new w x0 x1 x2 x3).keep ((Kept.refl _).alloc _ _)).keep ((Kept.refl _).alloc _ _), hp_keep h1 ((Kept.refl _).alloc _ _), h2, (((Kept.refl w).alloc _ _).alloc _ _).alloc _ _⟩
end Ex
end Go.Proofs.YtooelfjceehmmaaDoor
