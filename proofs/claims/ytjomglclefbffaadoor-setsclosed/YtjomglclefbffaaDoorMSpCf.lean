import Derived.Test.YtjomglclefbffaaDoorMSpCa
import Derived.Test.YtjomglclefbffaaDoorMSpHc
namespace Go.Proofs.YtjomglclefbffaaDoor
open Go.RowKit
attribute [local go_sem] Oper.semAt_some
namespace Ex

/-- Lists that are told, to be read. -/
def RdL (w : World) (g nn : Nat) (L : Nat → List Int) : Prop := ∀ x, x < nn → (L x).length ≤ 128 ∧ ∃ a c, w.cell? ⟨g, x, none⟩ = some (.slice a (L x).length c) ∧ IntsR w (.slice a (L x).length c) (L x)
theorem RdL.keep {w w' : World} {g nn : Nat} {L : Nat → List Int} (h : RdL w g nn L) (hk : Kept w w') : RdL w' g nn L := fun x hx => by
  obtain ⟨h2, a, c, h3, h4⟩ := h x hx
  exact ⟨h2, a, c, grown_cell hk h3, h4.keep hk⟩
def RdB (w : World) (g nn : Nat) (E : Nat → Bool) : Prop := ∀ x, x < nn → w.cell? ⟨g, x, none⟩ = some (.bool (E x))
theorem RdB.keep {w w' : World} {g nn : Nat} {E : Nat → Bool} (h : RdB w g nn E) (hk : Kept w w') : RdB w' g nn E := fun x hx => grown_cell hk (h x hx)
theorem RdL.td {w : World} {g1 g2 nn : Nat} {E : Nat → Bool} {Fl : Nat → List Int} (h : RdL w g2 nn Fl) (h1 : RdB w g1 nn E) : TdRd w g1 g2 nn E Fl := fun x hx => by
  obtain ⟨h2, a, c, h3, h4⟩ := h x hx
  exact ⟨h1 x hx, h2, a, c, h3, h4⟩
theorem null_rd {nn base : Nat} {ps : List ProdM} {g1 : Nat} {w : World} (hn : nn ≤ 128) (o1 : NullOk ps nn base (.slice (some ⟨g1, 0, none⟩) nn nn) w) : ∃ E : Nat → Bool, (∀ x, E x = true ↔ Mk false ps x) ∧ RdB w g1 nn E := by
  have ln : ∀ {α : Type} (f : Nat → α), ((List.range nn).map f).length = nn := fun f => by simp
  obtain ⟨E, hE, b1⟩ := o1
  refine ⟨fun x => E.testBit x, hE, fun x hx => ?_⟩
  obtain ⟨g, o, e1, e2⟩ := (b1.read (by rw [ln]; omega)).at_ (i := x) (x := E.testBit x) (by simp [hx])
  injection e1 with e1
  injection e1 with e1 e3 _
  subst e1 e3
  rw [Nat.zero_add] at e2
  exact e2
theorem rows_rd {nn base : Nat} {F : Nat → Nat} {g2 : Nat} {w : World} (hn : nn ≤ 128) (b2 : RowsO w base (.slice (some ⟨g2, 0, none⟩) nn nn) ((List.range nn).map fun i => bitsTo (F i) 128)) : RdL w g2 nn (fun x => bitsTo (F x) 128) := fun x hx => by
  have ln : ∀ {α : Type} (f : Nat → α), ((List.range nn).map f).length = nn := fun f => by simp
  have r2 := b2.read (by rw [ln]; omega) (fun l hl => by
    obtain ⟨i, _, rfl⟩ := List.mem_map.1 hl
    exact Nat.le_trans (bits_len _) (by decide))
  obtain ⟨g, o, u, e1, e2, e4⟩ := r2.at_ (i := x) (x := bitsTo (F x) 128) (by simp [hx])
  injection e1 with e1
  injection e1 with e1 e3 _
  subst e1 e3
  rw [Nat.zero_add] at e2
  obtain ⟨a, c, rfl, _⟩ := SliceOf.len e4
  exact ⟨bitsTo_len _ _, a, c, e2, e4⟩
theorem first_rd {nl nn base : Nat} {ps : List ProdM} {g2 : Nat} {w : World} (hn : nn ≤ 128) (o2 : FirstOk nl ps nn base (.slice (some ⟨g2, 0, none⟩) nn nn) w) : ∃ Fl : Nat → List Int, (∀ x, LisS (Fl x) (fun t => Fi nl (Mk false ps) ps (x, t))) ∧ (∀ x, RisL (Fl x)) ∧ (∀ x, (Fl x).length ≤ 128) ∧ RdL w g2 nn Fl := by
  obtain ⟨F, hF1, hF, b2⟩ := o2
  exact ⟨fun x => bitsTo (F x) 128, fun x => (bits_lis (hF1 x)).congr (fun t => hF (x, t)), fun x => bits_rising _ _, fun x => bitsTo_len _ _, rows_rd hn b2⟩
theorem follow_rd {nl s0 nn base : Nat} {ps : List ProdM} {g3 : Nat} {w : World} (hn : nn ≤ 128) (o3 : FollowOk nl s0 ps nn base (.slice (some ⟨g3, 0, none⟩) nn nn) w) : ∃ Gl : Nat → List Int, (∀ x, LisS (Gl x) (fun t => FoP nl s0 ps (x, t))) ∧ (∀ x, RisL (Gl x)) ∧ RdL w g3 nn Gl := by
  obtain ⟨F, G, hG1, hF, hG, b2⟩ := o3
  have eF : famS F = Fi nl (Mk false ps) ps := funext fun x => propext (hF x)
  rw [eF] at hG
  exact ⟨fun x => bitsTo (G x) 128, fun x => (bits_lis (hG1 x)).congr (fun t => hG (x, t)), fun x => bits_rising _ _, rows_rd hn b2⟩
/-- The yields, to be read, where there are some. -/
def YlsRd (nl : Nat) (ps : List ProdM) (nn m : Nat) (ay : Option Addr) (w : World) : Prop := ∃ (L : Nat → Option (List Int)) (yb yo : Nat), YIs nl ps L ∧ (∀ x, x < nn → (L x).isSome = true) ∧ ay = some ⟨yb, yo, none⟩ ∧ m = nn ∧ YlRd w yb yo nn (fun x => (L x).getD [])
theorem yld_rd {nl nn base m : Nat} {ps : List ProdM} {ay : Option Addr} {y : Int × Int} {w : World} (hn : nn ≤ 128) (h0 : 0 < nn) (o4 : YldO nl ps nn base y (.slice ay m m) w) (o5 : (y.1 = 0 ∧ m = nn) ∨ (y.1 = 6 ∧ m = 0)) (hfl : (y.1 == 6) = false) : YlsRd nl ps nn m ay w := by
  have ln : ∀ {α : Type} (f : Nat → α), ((List.range nn).map f).length = nn := fun f => by simp
  obtain ⟨L, okL, hL, hor⟩ := o4
  rcases hor with ⟨i, hi, hLi, hk, rfl, hv⟩ | ⟨hall, rfl, hr⟩
  · exact absurd hfl (by simp)
  · have hm : m = nn := by rcases o5 with h | h; exact h.2; exact absurd h.1 (by decide)
    subst hm
    have r4 := hr.read (by rw [ln]; omega) (fun l hl => by
      obtain ⟨i, _, rfl⟩ := List.mem_map.1 hl
      cases e : L i with
      | none => simp
      | some r => exact Nat.le_trans (okL i r e).2 (by decide))
    obtain ⟨yb, yo, _, ea, _⟩ := r4.at_ (i := 0) (x := (L 0).getD []) (by simp [h0])
    refine ⟨L, yb, yo, hL, fun x hx => ?_, ea, rfl, fun x hx => ?_⟩
    · cases e : L x with
      | none => exact absurd e (hall x hx)
      | some r => rfl
    · obtain ⟨g, o, u, e1, e2, e4⟩ := r4.at_ (i := x) (x := (L x).getD []) (by simp [hx])
      rw [ea] at e1
      injection e1 with e1
      injection e1 with e1 e3 _
      subst e1 e3
      obtain ⟨a, c, rfl, _⟩ := SliceOf.len e4
      refine ⟨?_, a, c, e2, e4⟩
      show ((L x).getD []).length ≤ 4096
      cases e : L x with
      | none => simp
      | some r => exact (okL x r e).2
/-- Of a spec in order, its symbols. -/
theorem sym_s {k : Nat} {lex : List (LexM k)} {ps : List ProdM} {nn nl : Nat} {st : Int} (hlex : lex.length = nl) (hq : CheckQ lex ps nn nl st (0, 0)) : ∀ p ∈ ps, p.2.length ≤ 16 ∧ (0 ≤ p.1 ∧ p.1 < (nn : Int)) ∧ ∀ x ∈ p.2, symErr lex nn x = 0 ∧ SymS nn x := by
  obtain ⟨_, hpa, _⟩ := checkQ_ok hq rfl
  obtain ⟨h1, _⟩ := hpa.facts hlex (Nat.le_refl 2)
  have hl := hpa.long (by omega)
  unfold longB at hl
  simp only [Bool.or_eq_false_iff, decide_eq_false_iff_not] at hl
  have hp := hpa.places (by omega)
  unfold placesP at hp
  rw [if_pos h1.2.2] at hp
  intro p hm
  refine ⟨?_, (places_good hp p hm).1, fun x hx => ⟨(places_good hp p hm).2 x hx, ?_⟩⟩
  · have h := List.any_eq_false.1 hl.2 p hm
    simp at h
    omega
  · rcases sym_ok hlex ((places_good hp p hm).2 x hx) with h | h | h
    · exact .inl ⟨h.1, h.2.1⟩
    · exact .inr (.inl h)
    · exact .inr (.inr h)

end Ex
end Go.Proofs.YtjomglclefbffaaDoor
namespace Go.Proofs.YtjomglclefbffaaDoor
open Go.RowKit
namespace Ex

theorem term_sym {k : Nat} {lex : List (LexM k)} {nn nl : Nat} {x : SymM} (hlex : lex.length = nl) (h : symErr lex nn x = 0) (h3 : x.1 ≠ 3) : TermOk lex nl ((termN nl x : Nat) : Int) := by
  rcases sym_ok hlex h with e | e | e
  · have e2 : termN nl x = x.2.toNat := by unfold termN; rw [if_neg (by omega)]
    rw [e2]
    refine ⟨by omega, by omega, fun ⟨_, ht⟩ => ?_⟩
    have ht : (lex[((x.2.toNat : Nat) : Int).toNat]?.map (·.2.1)).getD false = true := ht
    rw [Int.toNat_natCast] at ht
    unfold symErr at h
    rw [hlex, if_pos e, if_pos ht] at h
    exact absurd h (by decide)
  · have e2 : termN nl x = nl := by unfold termN; rw [if_pos e]
    rw [e2]
    exact ⟨by omega, by omega, fun ⟨h, _⟩ => by omega⟩
  · exact absurd e.1 h3
theorem heads_term {k : Nat} {lex : List (LexM k)} {nn nl : Nat} {E : Nat → Prop} {F : Nat × Nat → Prop} {nx : Nat → Prop} (hlex : lex.length = nl) (hF : ∀ x, F x → TermOk lex nl (x.2 : Int)) (hn : ∀ t, nx t → TermOk lex nl (t : Int)) : ∀ {row : List SymM} {t : Nat}, (∀ x ∈ row, symErr lex nn x = 0) → HeadS nl E F nx row t → TermOk lex nl (t : Int)
  | [], _, _, h => hn _ h
  | _ :: _, _, _, .inl ⟨_, .inl h⟩ => hF _ h
  | _ :: _, _, hs, .inl ⟨_, .inr ⟨_, h⟩⟩ => heads_term hlex hF hn (fun y hy => hs y (List.mem_cons_of_mem _ hy)) h
  | x :: _, _, hs, .inr ⟨h3, h⟩ => by
    rw [h]
    exact term_sym hlex (hs x List.mem_cons_self) h3
theorem first_term {k : Nat} {lex : List (LexM k)} {ps : List ProdM} {nn nl : Nat} (hlex : lex.length = nl) (hs : ∀ p ∈ ps, ∀ x ∈ p.2, symErr lex nn x = 0) {x : Nat × Nat} (h : Fi nl (Mk false ps) ps x) : TermOk lex nl (x.2 : Int) :=
  h (fun x => TermOk lex nl (x.2 : Int)) ⟨fun _ h => h.elim, fun _ _ _ ⟨p, hp, _, hh⟩ => heads_term hlex (fun _ h => h) (fun _ h => h.elim) (hs p (List.mem_of_getElem? hp)) hh⟩
theorem follow_term {k : Nat} {lex : List (LexM k)} {ps : List ProdM} {nn nl s0 : Nat} (hlex : lex.length = nl) (hs : ∀ p ∈ ps, ∀ x ∈ p.2, symErr lex nn x = 0) {x : Nat × Nat} (h : FoP nl s0 ps x) : TermOk lex nl (x.2 : Int) :=
  h (fun x => TermOk lex nl (x.2 : Int)) ⟨fun x hx => by
    have hx : x = (s0, nl + 1) := hx
    rw [hx]
    exact ⟨by omega, by show ((nl + 1 : Nat) : Int) < _; omega, fun h => by have h1 : ((nl + 1 : Nat) : Int) < _ := h.1; omega⟩, fun _ _ _ ⟨p, y, hp, _, _, _, hh⟩ => heads_term hlex (fun _ h => first_term hlex hs h) (fun _ h => h) (fun z hz => hs p (List.mem_of_getElem? hp) z (List.mem_of_mem_drop hz)) hh⟩
section
variable {nl s0 : Nat} {ps : List ProdM} {E : Nat → Bool} {Fl Gl : Nat → List Int}
theorem told_heads (hE : ∀ x, E x = true ↔ Mk false ps x) (hF : ∀ x, LisS (Fl x) (fun t => Fi nl (Mk false ps) ps (x, t))) {nx : List Int} {S : Nat → Prop} (hn : LisS nx S) (row : List SymM) : LisS (headsL nl E Fl nx row) (HeadS nl (Mk false ps) (Fi nl (Mk false ps) ps) S row) :=
  headsL_is (fun _ _ _ => ⟨hE _, hF _⟩) hn
theorem closed_first (hE : ∀ x, E x = true ↔ Mk false ps x) (hF : ∀ x, LisS (Fl x) (fun t => Fi nl (Mk false ps) ps (x, t))) {j : Nat} {p : ProdM} (hp : ps[j]? = some p) : ∀ z ∈ headsL nl E Fl [] p.2, z ∈ Fl p.1.toNat :=
  (told_heads hE hF LisS.nil p.2).sub (hF _) (fun _ ht => (lf_closed (fi_up nl (Mk false ps) ps)).2 j (List.getElem?_eq_some_iff.1 hp).1 _ ⟨p, hp, rfl, ht⟩)
theorem closed_follow (hE : ∀ x, E x = true ↔ Mk false ps x) (hF : ∀ x, LisS (Fl x) (fun t => Fi nl (Mk false ps) ps (x, t))) (hG : ∀ x, LisS (Gl x) (fun t => FoP nl s0 ps (x, t))) {j i : Nat} {p : ProdM} {y : SymM} (hp : ps[j]? = some p) (hy : p.2[i]? = some y) (h3 : y.1 = 3) : ∀ z ∈ headsL nl E Fl (Gl p.1.toNat) (p.2.drop (i + 1)), z ∈ Gl y.2.toNat :=
  (told_heads hE hF (hG p.1.toNat) (p.2.drop (i + 1))).sub (hG _) (fun _ ht => (lf_closed (fo_up nl (Mk false ps) (Fi nl (Mk false ps) ps) ps)).2 (j, i) ⟨p, hp, (List.getElem?_eq_some_iff.1 hy).1⟩ _ ⟨p, y, hp, hy, h3, rfl, ht⟩)
/-- What Heads tells is what First and Nullable say. -/
theorem heads_same (hE : ∀ x, E x = true ↔ Mk false ps x) (hF : ∀ x, LisS (Fl x) (fun t => Fi nl (Mk false ps) ps (x, t))) {nx : List Int} {S : Nat → Prop} (hn : LisS nx S) {En : Nat} {Fn : Nat → Nat} (h1 : ∀ n, En.testBit n = true ↔ Mk false ps n) (h2 : ∀ n, Fn n < 2 ^ 128) (h3 : ∀ x, famS Fn x ↔ Fi nl (Mk false ps) ps x) (hnl : nl < 128) (hb : bitsL nx < 2 ^ 128) {row : List SymM} (hr : ∀ x ∈ row, x.1 ≠ 3 → termN nl x < 128) (z : Int) : z ∈ bitsTo (headsM nl En Fn (bitsL nx) row 0) 128 ↔ z ∈ headsL nl E Fl nx row := by
  have hpos : ∀ z ∈ nx, 0 ≤ z := fun z hz => by
    obtain ⟨t, h, _⟩ := (hn z).1 hz
    omega
  have hl := heads_lt (E := En) hnl h2 hb row 0 (by decide) hr
  rw [bits_lis hl z, told_heads hE hF hn row z]
  have e1 : (fun n => En.testBit n = true) = Mk false ps := funext fun n => propext (h1 n)
  have e2 : famS Fn = Fi nl (Mk false ps) ps := funext fun x => propext (h3 x)
  have e3 : (fun t => (bitsL nx).testBit t = true) = S := funext fun t => propext ((bitsL_bit nx hpos t).trans ((hn _).trans ⟨fun ⟨u, hu, hs⟩ => by
    have : t = u := by omega
    rw [this]; exact hs, fun hs => ⟨t, rfl, hs⟩⟩))
  constructor
  · rintro ⟨t, rfl, ht⟩
    refine ⟨t, rfl, ?_⟩
    rcases (heads_bit nl En Fn (bitsL nx) row 0 t).1 ht with h | h
    · simp at h
    · rw [e1, e2, e3] at h
      exact h
  · rintro ⟨t, rfl, ht⟩
    refine ⟨t, rfl, (heads_bit nl En Fn (bitsL nx) row 0 t).2 (.inr ?_)⟩
    rw [e1, e2, e3]
    exact ht
end
theorem ints_nil (w : World) : IntsR w (.slice none 0 0) [] := ⟨none, 0, rfl, Nat.le_refl _, by simp, .inl rfl⟩
theorem headsL_len {nl : Nat} {E : Nat → Bool} {Fl : Nat → List Int} {nx : List Int} (hF : ∀ x, (Fl x).length ≤ 128) (hx : nx.length ≤ 128) : ∀ row : List SymM, (headsL nl E Fl nx row).length ≤ 128 * row.length + 128
  | [] => by unfold headsL; simp; exact hx
  | x :: xs => by
    have ih := headsL_len (nl := nl) (E := E) hF hx xs
    have h1 := hF x.2.toNat
    unfold headsL
    split
    · rw [List.length_append]
      split
      · rw [List.length_cons]; omega
      · rw [List.length_cons, List.length_nil]; omega
    · simp
theorem wrong_zero {k : Nat} {lex : List (LexM k)} {nn : Nat} : ∀ {row : List SymM} {i : Nat}, (∀ x ∈ row, symErr lex nn x = 0) → wrongF lex nn i row = (0, 0)
  | [], _, _ => rfl
  | x :: row, i, h => by
    unfold wrongF
    rw [if_pos (h x List.mem_cons_self)]
    exact wrong_zero (fun y hy => h y (List.mem_cons_of_mem _ hy))
theorem row_zero {k : Nat} {lex : List (LexM k)} {nn : Nat} {row : List SymM} (h16 : row.length ≤ 16) (h : ∀ x ∈ row, symErr lex nn x = 0) : (rowQ lex nn row).1 = 0 := by
  unfold rowQ
  rw [if_neg (by omega)]
  unfold wrongP
  rw [wrong_zero h]
theorem heads_ok {k : Nat} {lex : List (LexM k)} {ps : List ProdM} {nn nl : Nat} {st : Int} {row : List SymM} {next : List Int} {w w' : World} {e : Ending} (hq : CheckQ lex ps nn nl st (0, 0)) (hr : (rowQ lex nn row).1 = 0) (ht : ∀ z ∈ next, TermOk lex nl z) (h : HeadsR lex ps nn nl st row next w e w') : ∃ (v : Value) (E : Nat) (F : Nat → Nat), e = .returned (.tuple #[v, faultV (0, 0)]) ∧ (∀ n, E.testBit n = true ↔ Mk false ps n) ∧ (∀ n, F n < 2 ^ 128) ∧ (∀ x, famS F x ↔ Fi nl (Mk false ps) ps x) ∧ IntsO w' w.heap.size v (bitsTo (headsM nl E F (bitsL next) row 0) 128) ∧ Kept w w' := by
  obtain ⟨x, hx, hk, h⟩ := h
  have e0 := checkQ_one hx hq
  subst e0
  rcases h with ⟨h, _⟩ | ⟨_, h⟩
  · exact absurd rfl h
  · rcases h with ⟨h, _⟩ | ⟨_, i, z, h1, h2, _⟩ | ⟨_, _, v, E, F, h1, h2, h3, h4, h5⟩
    · exact absurd hr h
    · exact absurd (ht z (List.mem_of_getElem? h1)) h2
    · exact ⟨v, E, F, h1, h2, h3, h4, h5, hk⟩
/-- All that the law reads, in a world. -/
def CloW {k : Nat} (lex : List (LexM k)) (ps : List ProdM) (al an ap : Option Addr) (nl cl nn cn np cp : Nat) (st : Int) (sb tb g1 g2 g3 : Nat) (ay : Option Addr) (m : Nat) (fl : Bool) (E : Nat → Bool) (Fl Gl : Nat → List Int) (w : World) : Prop :=
  SBox w sb (.slice al nl cl) (.slice an nn cn) (.int .i64 st) (.slice ap np cp) ∧ TdBox w tb (.slice (some ⟨g1, 0, none⟩) nn nn) (.slice (some ⟨g2, 0, none⟩) nn nn) (.slice (some ⟨g3, 0, none⟩) nn nn) (.slice ay m m) fl ∧ RdB w g1 nn E ∧ RdL w g2 nn Fl ∧ RdL w g3 nn Gl ∧ LexAt w k (.slice al nl cl) lex ∧ ProdsAt w (.slice ap np cp) ps ∧ TabAt w
theorem CloW.keep {k : Nat} {lex : List (LexM k)} {ps : List ProdM} {al an ap : Option Addr} {nl cl nn cn np cp : Nat} {st : Int} {sb tb g1 g2 g3 : Nat} {ay : Option Addr} {m : Nat} {fl : Bool} {E : Nat → Bool} {Fl Gl : Nat → List Int} {w w' : World} (h : CloW lex ps al an ap nl cl nn cn np cp st sb tb g1 g2 g3 ay m fl E Fl Gl w) (hk : Kept w w') : CloW lex ps al an ap nl cl nn cn np cp st sb tb g1 g2 g3 ay m fl E Fl Gl w' :=
  ⟨h.1.keep hk, TdBox.keep h.2.1 hk, h.2.2.1.keep hk, h.2.2.2.1.keep hk, h.2.2.2.2.1.keep hk, h.2.2.2.2.2.1.keep hk, h.2.2.2.2.2.2.1.keep hk, h.2.2.2.2.2.2.2.keep hk⟩

end Ex
end Go.Proofs.YtjomglclefbffaaDoor
