import Derived.Test.YtfajoknacfjedaaGreatDoorMExLyC
import Derived.Test.YtfajoknacfjedaaGreatDoorMExTw2
import Derived.Test.YtfajoknacfjedaaGreatDoorMExO9
namespace Go.Proofs.YtfajoknacfjedaaGreatDoor
open Go.RowKit
namespace Ex

/-- A pattern, folded from its leaves on. -/
def foldN {β : Type} (f : Int → Int → Int → Int → Int → List β → β) : (n : Nat) → PatN (n + 1) → β
  | 0, p => f (kind p) (from_ p) (to_ p) (min_ p) (max_ p) []
  | n + 1, p => f (kind p) (from_ p) (to_ p) (min_ p) (max_ p) ((kids p).map (foldN f n))
def foldP {β : Type} (f : Int → Int → Int → Int → Int → List β → β) (r : Pat) : β := foldN f r.1 r.2
def fitq {n : Nat} (m : Nat) (p : PatN (n + 1)) : PatN (m + 1) := (show PatN (m + 1) from (kind p, from_ p, to_ p, min_ p, max_ p, fitL m n (kids p)))
theorem fold_fit {β : Type} (f : Int → Int → Int → Int → Int → List β → β) : ∀ (n m : Nat), n ≤ m → ∀ p : PatN (n + 1), foldN f m (fitq m p) = foldN f n p
  | 0, 0, _, _ => rfl
  | 0, _ + 1, _, _ => rfl
  | n + 1, 0, h, _ => absurd h (by omega)
  | n + 1, m + 1, h, p => by
    show f (kind p) (from_ p) (to_ p) (min_ p) (max_ p) ((fitL (m + 1) (n + 1) (kids p)).map (foldN f m)) = f (kind p) (from_ p) (to_ p) (min_ p) (max_ p) ((kids p).map (foldN f n))
    congr 1
    show ((kids p).map (fun q => fitq m q)).map (foldN f m) = _
    rw [List.map_map]
    exact List.map_congr_left (fun q _ => fold_fit f n m (by omega) q)
theorem topL_ge {r : Pat} : ∀ {l : List Pat}, r ∈ l → r.1 + 1 ≤ topL l
  | q :: l, h => by
    rcases List.mem_cons.1 h with rfl | h
    · exact Nat.le_max_left _ _
    · exact Nat.le_trans (topL_ge h) (Nat.le_max_right _ _)
theorem kids_at {l : List Pat} {M : Nat} (h : ∀ r ∈ l, r.1 ≤ M) : kidsOf (M + 1) l = l.map (fun r => fitq M r.2) := by
  induction l with
  | nil => rfl
  | cons r l ih =>
    have ih := ih (fun q hq => h q (List.mem_cons_of_mem _ hq))
    unfold kidsOf at ih ⊢
    rw [List.flatMap_cons, ih]
    rfl
theorem fold_mk {β : Type} (f : Int → Int → Int → Int → Int → List β → β) (k a b mn mx : Int) (l : List Pat) : foldP f (mkP k a b mn mx l) = f k a b mn mx (l.map (foldP f)) := by
  have key : ∀ (M : Nat), topL l = M → foldN f M (show PatN (M + 1) from (k, a, b, mn, mx, kidsOf M l)) = f k a b mn mx (l.map (foldP f)) := by
    intro M hM
    cases M with
    | zero =>
      cases l with
      | nil => rfl
      | cons r l => have := topL_ge (List.mem_cons_self (a := r) (l := l)); omega
    | succ M =>
      show f k a b mn mx ((kidsOf (M + 1) l).map (foldN f M)) = _
      rw [kids_at (fun r hr => by have := topL_ge hr; omega), List.map_map]
      congr 1
      exact List.map_congr_left (fun r hr => fold_fit f r.1 M (by have := topL_ge hr; omega) r.2)
  exact key _ rfl

/-- Rows of parts. -/
def CatS : List (List Int → Prop) → List Int → Prop
  | [], w => w = []
  | L :: l, w => ∃ u v, w = u ++ v ∧ L u ∧ CatS l v
/-- What a pattern matches. -/
def langF (k a b mn mx : Int) (ls : List (List Int → Prop)) (u : List Int) : Prop :=
  if k = 1 then (∃ c, u = [c] ∧ IntKind.u8.wrap a ≤ c ∧ c ≤ IntKind.u8.wrap b)
  else if k = 2 then CatS ls u
  else if k = 3 then (∃ L ∈ ls, L u)
  else (match ls with | [] => False | L :: _ => TimesS L mn mx u)
def LangN (n : Nat) (p : PatN (n + 1)) : List Int → Prop := foldN langF n p
def LangP (r : Pat) : List Int → Prop := foldP langF r
theorem lang0 (q : PatN (0 + 1)) (u : List Int) : LangN 0 q u = langF (kind q) (from_ q) (to_ q) (min_ q) (max_ q) [] u := rfl
theorem langS (n : Nat) (q : PatN (n + 1 + 1)) (u : List Int) : LangN (n + 1) q u = langF (kind q) (from_ q) (to_ q) (min_ q) (max_ q) ((kids q).map (LangN n)) u := rfl
theorem rowS_snoc {α : Type} {S : α → List Int → Prop} : ∀ (l : List α) (q : α) (w : List Int), RowS S (l ++ [q]) w ↔ ∃ u v, w = u ++ v ∧ S q u ∧ RowS S l v
  | [], q, w => by
    constructor
    · rintro ⟨u, v, e, hu, hv⟩
      have hu : u = [] := hu
      subst hu
      exact ⟨v, [], by rw [e]; simp, hv, rfl⟩
    · rintro ⟨u, v, e, hu, hv⟩
      have hv : v = [] := hv
      subst hv
      exact ⟨[], u, by rw [e]; simp, rfl, hu⟩
  | r :: l, q, w => by
    constructor
    · rintro ⟨u, v, e, hu, hv⟩
      obtain ⟨x, y, e2, hx, hy⟩ := (rowS_snoc l q u).1 hu
      exact ⟨x, y ++ v, by rw [e, e2, List.append_assoc], hx, y, v, rfl, hy, hv⟩
    · rintro ⟨u, v, e, hu, x, y, e2, hx, hy⟩
      exact ⟨u ++ x, y, by rw [e, e2, List.append_assoc], (rowS_snoc l q _).2 ⟨u, x, rfl, hu, hx⟩, hy⟩
theorem rowS_cat {α : Type} {S : α → List Int → Prop} : ∀ (l : List α) (w : List Int), RowS S l.reverse w ↔ CatS (l.map S) w
  | [], _ => Iff.rfl
  | q :: l, w => by
    rw [List.reverse_cons, rowS_snoc, List.map_cons]
    constructor
    · rintro ⟨u, v, e, hu, hv⟩
      exact ⟨u, v, e, hu, (rowS_cat l v).1 hv⟩
    · rintro ⟨u, v, e, hu, hv⟩
      exact ⟨u, v, e, hu, (rowS_cat l v).2 hv⟩
theorem Means.imp {M : Nat → St → Nat × St} {L L' : List Int → Prop} (h : Means M L) (e : ∀ u, L u ↔ L' u) : Means M L' := fun next st hb ts fs hH => (h next st hb ts fs hH).imp e
theorem lay_means : ∀ (n : Nat) (q : PatN (n + 1)), LeanOk n q → Adds (layV n q) ∧ Means (layV n q) (LangN n q)
  | 0, q, h => by
    unfold layV
    rcases h with h | h
    · rw [if_neg (by omega)]
      exact ⟨range_adds q, (range_means q).imp (fun u => by rw [lang0]; unfold langF; rw [if_pos h]; rfl)⟩
    · rw [if_pos h]
      exact ⟨none_adds, none_means.imp (fun u => by rw [lang0]; unfold langF; rw [if_neg (by omega), if_pos h]; rfl)⟩
  | n + 1, q, h => by
    have ih := lay_means n
    rcases h with h | ⟨h, h2⟩ | ⟨h, h1, h2⟩ | ⟨h, h1, h2, h3, h4, h5⟩
    · unfold layV
      rw [if_pos h]
      exact ⟨range_adds q, (range_means q).imp (fun u => by rw [langS]; unfold langF; rw [if_pos h]; rfl)⟩
    · unfold layV
      rw [if_neg (by omega), if_pos h]
      refine ⟨row_adds _ (fun r hr => (ih r (h2 r (List.mem_reverse.1 hr))).1), (row_means (S := LangN n) _ (fun r hr => (ih r (h2 r (List.mem_reverse.1 hr))).1) (fun r hr => (ih r (h2 r (List.mem_reverse.1 hr))).2)).imp (fun u => ?_)⟩
      rw [langS]
      unfold langF
      rw [if_neg (by omega), if_pos h]
      exact rowS_cat (kids q) u
    · unfold layV
      rw [if_neg (by omega), if_neg (by omega), if_pos h]
      obtain ⟨ks, hks⟩ : ∃ x, kids q = x := ⟨_, rfl⟩
      rw [hks] at h1 h2 ⊢
      cases ks with
      | nil => simp at h1
      | cons r l =>
        refine ⟨alts_adds r l (fun z hz => (ih z (h2 z hz)).1), (alts_means (S := LangN n) r l (fun z hz => (ih z (h2 z hz)).1) (fun z hz => (ih z (h2 z hz)).2)).imp (fun u => ?_)⟩
        rw [langS]
        unfold langF
        rw [if_neg (by omega), if_neg (by omega), if_pos h, hks]
        constructor
        · rintro ⟨z, hz, hu⟩
          exact ⟨_, List.mem_map_of_mem hz, hu⟩
        · rintro ⟨L, hL, hu⟩
          obtain ⟨z, hz, rfl⟩ := List.mem_map.1 hL
          exact ⟨z, hz, hu⟩
    · unfold layV
      rw [if_neg (by omega), if_neg (by omega), if_neg (by omega)]
      obtain ⟨ks, hks⟩ : ∃ x, kids q = x := ⟨_, rfl⟩
      rw [hks] at h4 h5 ⊢
      cases ks with
      | nil => simp at h4
      | cons r l =>
        have hr := ih r (h5 r (by simp))
        have hl : ∀ u, TimesS (LangN n r) (min_ q) (max_ q) u ↔ LangN (n + 1) q u := fun u => by
          rw [langS]
          unfold langF
          rw [if_neg (by omega), if_neg (by omega), if_neg (by omega), hks]
          rfl
        show Adds (if max_ q = -1 then endlessL (layV n r) (min_ q) else boundL (layV n r) (min_ q) (max_ q)) ∧ Means (if max_ q = -1 then endlessL (layV n r) (min_ q) else boundL (layV n r) (min_ q) (max_ q)) _
        by_cases hm : max_ q = -1
        · rw [if_pos hm]
          rw [hm] at hl
          exact ⟨endless_adds hr.1 _, (endless_means hr.1 hr.2 h1).imp hl⟩
        · rw [if_neg hm]
          have h3 := h3.resolve_left hm
          exact ⟨bound_adds hr.1 _ _, (bound_means hr.1 hr.2 h1 h3.1).imp hl⟩

end Ex
end Go.Proofs.YtfajoknacfjedaaGreatDoor
namespace Go.Proofs.YtfajoknacfjedaaGreatDoor
open Go.RowKit
namespace Ex

/-- Is it hollow; is it lean? -/
def leanF (k a b mn mx : Int) (ls : List (Bool × Bool)) : Bool × Bool :=
  (k == 2 && ls.isEmpty,
   if k = 1 then decide (0 ≤ a) && decide (a ≤ b) && decide (b ≤ 255)
   else if k = 2 then ls.all (fun x => !x.1 && x.2)
   else if k = 3 then decide (2 ≤ ls.length) && ls.all (fun x => x.2) && decide ((ls.filter (fun x => x.1)).length ≤ 1)
   else k == 4 && timesP mn mx && mx != 0 && decide (ls.length = 1) && ls.all (fun x => !x.1 && x.2))
theorem lean_snd (k a b mn mx : Int) (ls : List (Bool × Bool)) : (leanF k a b mn mx ls).2 = (if k = 1 then decide (0 ≤ a) && decide (a ≤ b) && decide (b ≤ 255)
   else if k = 2 then ls.all (fun x => !x.1 && x.2)
   else if k = 3 then decide (2 ≤ ls.length) && ls.all (fun x => x.2) && decide ((ls.filter (fun x => x.1)).length ≤ 1)
   else k == 4 && timesP mn mx && mx != 0 && decide (ls.length = 1) && ls.all (fun x => !x.1 && x.2)) := rfl
theorem hollow_fold : ∀ r : Pat, hollowP r = (foldP leanF r).1
  | ⟨0, p⟩ => by
    show (kind p == 2 && (kids p).length == 0) = (kind p == 2 && true)
    rw [none_of (kids p)]
    rfl
  | ⟨n + 1, p⟩ => by
    show (kind p == 2 && (kids p).length == 0) = (kind p == 2 && ((kids p).map (foldN leanF n)).isEmpty)
    congr 1
    cases kids p <;> rfl
theorem lean_ok : ∀ (n : Nat) (q : PatN (n + 1)), (foldN leanF n q).2 = true → LeanOk n q
  | 0, q, h => by
    have h' : (leanF (kind q) (from_ q) (to_ q) (min_ q) (max_ q) []).2 = true := h
    rw [lean_snd] at h'
    by_cases h1 : kind q = 1
    · exact .inl h1
    by_cases h2 : kind q = 2
    · exact .inr h2
    rw [if_neg h1, if_neg h2] at h'
    by_cases h3 : kind q = 3
    · rw [if_pos h3] at h'; simp at h'
    · rw [if_neg h3] at h'; simp at h'
  | n + 1, q, h => by
    have h' : (leanF (kind q) (from_ q) (to_ q) (min_ q) (max_ q) ((kids q).map (foldN leanF n))).2 = true := h
    rw [lean_snd] at h'
    by_cases h1 : kind q = 1
    · exact .inl h1
    rw [if_neg h1] at h'
    by_cases h2 : kind q = 2
    · rw [if_pos h2] at h'
      refine .inr (.inl ⟨h2, fun r hr => lean_ok n r ?_⟩)
      have := List.all_eq_true.1 h' _ (List.mem_map_of_mem hr)
      simp at this
      exact this.2
    rw [if_neg h2] at h'
    by_cases h3 : kind q = 3
    · rw [if_pos h3] at h'
      rw [Bool.and_eq_true, Bool.and_eq_true] at h'
      refine .inr (.inr (.inl ⟨h3, by simpa using h'.1.1, fun r hr => lean_ok n r ?_⟩))
      exact List.all_eq_true.1 h'.1.2 _ (List.mem_map_of_mem hr)
    · rw [if_neg h3] at h'
      simp only [Bool.and_eq_true, beq_iff_eq, decide_eq_true_eq, List.length_map] at h'
      obtain ⟨⟨⟨⟨h4, ht⟩, hm⟩, hl⟩, ha⟩ := h'
      unfold timesP at ht
      simp at ht hm
      refine .inr (.inr (.inr ⟨h4, by omega, by omega, by omega, hl, fun r hr => lean_ok n r ?_⟩))
      have := List.all_eq_true.1 ha _ (List.mem_map_of_mem hr)
      simp at this
      exact this.2
theorem hollow_lang {r : Pat} (h : hollowP r = true) : LangP r = fun u => u = [] := by
  obtain ⟨n, p⟩ := r
  unfold hollowP at h
  simp at h
  obtain ⟨h1, h2⟩ := h
  funext u
  cases n with
  | zero =>
    show langF (kind p) (from_ p) (to_ p) (min_ p) (max_ p) [] u = _
    unfold langF
    rw [if_neg (by omega), if_pos h1]
    rfl
  | succ n =>
    show langF (kind p) (from_ p) (to_ p) (min_ p) (max_ p) ((kids p).map (LangN n)) u = _
    unfold langF
    rw [if_neg (by omega), if_pos h1, h2]
    rfl
theorem thinG_zero : ∀ (l : List Pat) (k : Int), k ≤ 0 → thinG l k = l.filter (fun r => !hollowP r)
  | [], _, _ => rfl
  | p :: l, k, hk => by
    rw [thinG, List.filter_cons]
    by_cases h : hollowP p = true
    · rw [if_pos h, if_pos (by omega), if_neg (by simp [h]), thinG_zero l _ (by omega)]
    · rw [if_neg h, if_pos (by simpa using h), thinG_zero l k hk]
theorem thinG_one : ∀ (l : List Pat), thinG l 1 = l.filter (fun r => !hollowP r) ∨ ∃ a p b, l = a ++ p :: b ∧ hollowP p = true ∧ (∀ r ∈ a, hollowP r = false) ∧ thinG l 1 = a ++ p :: b.filter (fun r => !hollowP r)
  | [] => .inl rfl
  | p :: l => by
    rw [thinG]
    by_cases h : hollowP p = true
    · rw [if_pos h, if_neg (by omega)]
      refine .inr ⟨[], p, l, rfl, h, (fun r hr => by cases hr), ?_⟩
      rw [thinG_zero l _ (by omega)]
      rfl
    · rw [if_neg h]
      have hf : hollowP p = false := by simpa using h
      rcases thinG_one l with e | ⟨a, q, b, e1, e2, e3, e4⟩
      · left
        rw [e, List.filter_cons, if_pos (by simp [hf])]
      · right
        refine ⟨p :: a, q, b, by rw [e1]; rfl, e2, fun r hr => ?_, by rw [e4]; rfl⟩
        rcases List.mem_cons.1 hr with rfl | hr
        · exact hf
        · exact e3 r hr
theorem cat_filter : ∀ (l : List Pat) (u : List Int), CatS ((l.filter (fun r => !hollowP r)).map LangP) u ↔ CatS (l.map LangP) u
  | [], _ => Iff.rfl
  | p :: l, u => by
    rw [List.filter_cons, List.map_cons]
    by_cases h : hollowP p = true
    · rw [if_neg (by simp [h]), cat_filter l u]
      constructor
      · exact fun hu => ⟨[], u, rfl, by rw [hollow_lang h], hu⟩
      · rintro ⟨x, y, e, hx, hy⟩
        rw [hollow_lang h] at hx
        have hx : x = [] := hx
        subst hx
        rw [e]
        exact hy
    · rw [if_pos (by simpa using h), List.map_cons]
      constructor
      · rintro ⟨x, y, e, hx, hy⟩
        exact ⟨x, y, e, hx, (cat_filter l y).1 hy⟩
      · rintro ⟨x, y, e, hx, hy⟩
        exact ⟨x, y, e, hx, (cat_filter l y).2 hy⟩
theorem alt_thin (l : List Pat) (u : List Int) : (∃ r ∈ thinG l 1, LangP r u) ↔ ∃ r ∈ l, LangP r u := by
  rcases thinG_one l with e | ⟨a, p, b, e1, e2, e3, e4⟩
  · rw [e]
    constructor
    · rintro ⟨r, hr, hu⟩
      exact ⟨r, (List.mem_filter.1 hr).1, hu⟩
    · rintro ⟨r, hr, hu⟩
      by_cases h : hollowP r = true
      · exfalso
        -- then thinG keeps a hollow one
        have : ∀ (l : List Pat), r ∈ l → hollowP r = true → ∃ z ∈ thinG l 1, hollowP z = true := by
          intro l
          induction l with
          | nil => intro h; cases h
          | cons p l ih =>
            intro hr h
            rw [thinG]
            by_cases hp : hollowP p = true
            · rw [if_pos hp, if_neg (by omega)]
              exact ⟨p, List.mem_cons_self .., hp⟩
            · rw [if_neg hp]
              rcases List.mem_cons.1 hr with rfl | hr
              · exact absurd h hp
              · obtain ⟨z, hz, h2⟩ := ih hr h
                exact ⟨z, List.mem_cons_of_mem _ hz, h2⟩
        obtain ⟨z, hz, h2⟩ := this l hr h
        rw [e] at hz
        have := (List.mem_filter.1 hz).2
        rw [h2] at this
        cases this
      · exact ⟨r, List.mem_filter.2 ⟨hr, by simpa using h⟩, hu⟩
  · rw [e4, e1]
    constructor
    · rintro ⟨r, hr, hu⟩
      refine ⟨r, ?_, hu⟩
      rcases List.mem_append.1 hr with hr | hr
      · exact List.mem_append_left _ hr
      · refine List.mem_append_right _ ?_
        rcases List.mem_cons.1 hr with rfl | hr
        · exact List.mem_cons_self ..
        · exact List.mem_cons_of_mem _ (List.mem_filter.1 hr).1
    · rintro ⟨r, hr, hu⟩
      rcases List.mem_append.1 hr with hr | hr
      · exact ⟨r, List.mem_append_left _ hr, hu⟩
      · rcases List.mem_cons.1 hr with rfl | hr
        · exact ⟨r, List.mem_append_right _ (List.mem_cons_self ..), hu⟩
        · by_cases h : hollowP r = true
          · refine ⟨p, List.mem_append_right _ (List.mem_cons_self ..), ?_⟩
            rw [hollow_lang h] at hu
            rw [hollow_lang e2]
            exact hu
          · exact ⟨r, List.mem_append_right _ (List.mem_cons_of_mem _ (List.mem_filter.2 ⟨hr, by simpa using h⟩)), hu⟩
theorem pow_nil (k : Nat) (u : List Int) : PowL (fun u => u = []) k u ↔ u = [] := by
  induction k generalizing u with
  | zero => exact Iff.rfl
  | succ k ih =>
    constructor
    · rintro ⟨x, y, e, hx, hy⟩
      have hx : x = [] := hx
      rw [e, hx, (ih y).1 hy]
      rfl
    · rintro rfl
      exact ⟨[], [], rfl, rfl, (ih []).2 rfl⟩
theorem lang_mk2 (l : List Pat) : LangP (mkP 2 0 0 0 0 l) = CatS (l.map LangP) := by
  unfold LangP
  rw [fold_mk]
  funext u
  unfold langF
  rw [if_neg (by decide), if_pos rfl]
theorem lean_one (l : List Pat) (h : ∀ r ∈ l, (foldP leanF r).2 = true) (h0 : l ≠ []) (h1 : (l.filter hollowP).length ≤ 1) : (foldP leanF (oneOf 3 l)).2 = true ∧ LangP (oneOf 3 l) = fun u => ∃ r ∈ l, LangP r u := by
  match l, h0 with
  | [p], _ =>
    refine ⟨h p (by simp), ?_⟩
    funext u
    simp [oneOf]
  | p :: q :: l, _ =>
    have e : oneOf 3 (p :: q :: l) = mkP 3 0 0 0 0 (p :: q :: l) := rfl
    rw [e]
    constructor
    · rw [fold_mk]
      rw [lean_snd]
      rw [if_neg (by decide), if_neg (by decide), if_pos rfl]
      rw [Bool.and_eq_true, Bool.and_eq_true]
      refine ⟨⟨by simp, ?_⟩, ?_⟩
      · rw [List.all_eq_true]
        intro x hx
        obtain ⟨r, hr, rfl⟩ := List.mem_map.1 hx
        exact h r hr
      · have e2 : ((List.map (foldP leanF) (p :: q :: l)).filter (fun x => x.1)).length = ((p :: q :: l).filter hollowP).length := by
          rw [List.filter_map, List.length_map]
          congr 2
          funext r
          exact (hollow_fold r).symm
        rw [e2]
        simpa using h1
    · unfold LangP
      rw [fold_mk]
      funext u
      unfold langF
      rw [if_neg (by decide), if_neg (by decide), if_pos rfl, eq_iff_iff]
      constructor
      · rintro ⟨L, hL, hu⟩
        obtain ⟨r, hr, rfl⟩ := List.mem_map.1 hL
        exact ⟨r, hr, hu⟩
      · rintro ⟨r, hr, hu⟩
        exact ⟨_, List.mem_map_of_mem hr, hu⟩
theorem filter_none : ∀ (l : List Pat), ((l.filter (fun r => !hollowP r)).filter hollowP) = []
  | [] => rfl
  | p :: l => by
    rw [List.filter_cons]
    by_cases h : hollowP p = true
    · rw [if_neg (by simp [h])]
      exact filter_none l
    · rw [if_pos (by simpa using h), List.filter_cons, if_neg h]
      exact filter_none l
theorem thinG_holl (l : List Pat) : ((thinG l 1).filter hollowP).length ≤ 1 := by
  rcases thinG_one l with e | ⟨a, p, b, e1, e2, e3, e4⟩
  · rw [e, filter_none]
    exact Nat.zero_le _
  · rw [e4, List.filter_append, List.filter_cons, if_pos e2, filter_none]
    have : a.filter hollowP = [] := List.filter_eq_nil_iff.2 (fun r hr => by rw [e3 r hr]; simp)
    rw [this]
    simp
theorem thinG_mem : ∀ (l : List Pat) (k : Int) (r : Pat), r ∈ thinG l k → r ∈ l
  | [], _, _, h => h
  | p :: l, k, r, h => by
    rw [thinG] at h
    split at h
    · split at h
      · exact List.mem_cons_of_mem _ (thinG_mem l _ r h)
      · rcases List.mem_cons.1 h with rfl | h
        · exact List.mem_cons_self ..
        · exact List.mem_cons_of_mem _ (thinG_mem l _ r h)
    · rcases List.mem_cons.1 h with rfl | h
      · exact List.mem_cons_self ..
      · exact List.mem_cons_of_mem _ (thinG_mem l _ r h)
theorem thinG_some : ∀ (l : List Pat), l ≠ [] → thinG l 1 ≠ []
  | [], h => absurd rfl h
  | p :: l, _ => by
    rw [thinG]
    split
    · rw [if_neg (by omega)]
      exact List.cons_ne_nil _ _
    · exact List.cons_ne_nil _ _
theorem lean_nil : (foldP leanF (mkP 2 0 0 0 0 [])).2 = true := by rw [fold_mk]; rfl
theorem thin_e1 : ∀ (n : Nat) (p : PatN (n + 1)), kind p = 1 → thinW n p = ⟨n, p⟩
  | 0, p, h => by
    unfold thinW
    rw [if_neg (by omega), if_neg (by omega)]
    exact if_neg (by omega)
  | n + 1, p, h => by
    rw [thinW, if_neg (by omega), if_neg (by omega)]
    exact if_neg (by omega)
theorem thin_e2 {n : Nat} {p : PatN (n + 1 + 1)} (h : kind p = 2) : thinW (n + 1) p = mkP 2 0 0 0 0 (thinG ((kids p).map (thinW n)) 0) := by rw [thinW, if_pos h]
theorem thin_e3 {n : Nat} {p : PatN (n + 1 + 1)} (h : kind p = 3) : thinW (n + 1) p = oneOf 3 (thinG ((kids p).map (thinW n)) 1) := by rw [thinW, if_neg (by omega), if_pos h]
theorem thin_e4 {n : Nat} {p : PatN (n + 1 + 1)} {q : PatN (n + 1)} (h : kind p = 4) (hq : kids p = [q]) : thinW (n + 1) p = if max_ p = 0 ∨ hollowP (thinW n q) = true then mkP 2 0 0 0 0 [] else mkP 4 0 0 (min_ p) (max_ p) [thinW n q] := by
  rw [thinW, if_neg (by omega), if_neg (by omega)]
  refine (if_pos h).trans ?_
  rw [hq]
  rfl
theorem thin_ok : ∀ (n : Nat) (p : PatN (n + 1)), rightP (n + 1) p = true → (foldP leanF (thinW n p)).2 = true ∧ LangP (thinW n p) = LangN n p
  | 0, p, hr => by
    have h' : (topOf p && (kids p).all (rightP 0)) = true := hr
    rw [Bool.and_eq_true] at h'
    have ht := h'.1
    unfold topOf topP at ht
    rw [none_of (kids p)] at ht
    by_cases k2 : kind p = 2
    · have e : thinW 0 p = mkP 2 0 0 0 0 [] := by unfold thinW; rw [if_pos k2]
      rw [e]
      refine ⟨lean_nil, ?_⟩
      rw [lang_mk2]
      funext u
      rw [lang0]
      unfold langF
      rw [if_neg (by omega), if_pos k2]
      rfl
    by_cases k3 : kind p = 3
    · rw [if_neg (by omega), if_neg k2, if_pos k3] at ht
      simp at ht
    by_cases k4 : kind p = 4
    · rw [if_neg (by omega), if_neg k2, if_neg k3, if_pos k4] at ht
      simp at ht
    by_cases k1 : kind p = 1
    · rw [thin_e1 0 p k1]
      refine ⟨?_, rfl⟩
      rw [if_pos k1] at ht
      show (leanF (kind p) (from_ p) (to_ p) (min_ p) (max_ p) []).2 = true
      rw [lean_snd]
      rw [if_pos k1]
      simp at ht ⊢
      omega
    · rw [if_neg k1, if_neg k2, if_neg k3, if_neg k4] at ht
      cases ht
  | n + 1, p, hr => by
    have h' : (topOf p && (kids p).all (rightP (n + 1))) = true := hr
    rw [Bool.and_eq_true] at h'
    have ht := h'.1
    have hk := List.all_eq_true.1 h'.2
    have ih : ∀ q ∈ kids p, (foldP leanF (thinW n q)).2 = true ∧ LangP (thinW n q) = LangN n q := fun q hq => thin_ok n q (hk q hq)
    have hm : ((kids p).map (thinW n)).map LangP = (kids p).map (LangN n) := by
      rw [List.map_map]
      exact List.map_congr_left (fun q hq => (ih q hq).2)
    have hl : ∀ r ∈ (kids p).map (thinW n), (foldP leanF r).2 = true := fun r hr => by
      obtain ⟨q, hq, rfl⟩ := List.mem_map.1 hr
      exact (ih q hq).1
    unfold topOf topP at ht
    by_cases k2 : kind p = 2
    · rw [thin_e2 k2]
      rw [thinG_zero _ _ (Int.le_refl 0)]
      constructor
      · rw [fold_mk]
        rw [lean_snd]
        rw [if_neg (by decide), if_pos rfl, List.all_eq_true]
        intro x hx
        obtain ⟨r, hr, rfl⟩ := List.mem_map.1 hx
        obtain ⟨h1, h2⟩ := List.mem_filter.1 hr
        rw [hollow_fold] at h2
        rw [Bool.and_eq_true]
        exact ⟨h2, hl r h1⟩
      · rw [lang_mk2]
        funext u
        rw [langS, eq_iff_iff, cat_filter, hm]
        unfold langF
        rw [if_neg (by omega), if_pos k2]
    by_cases k3 : kind p = 3
    · rw [thin_e3 k3]
      rw [if_neg (by omega), if_neg k2, if_pos k3] at ht
      have hne : (kids p).map (thinW n) ≠ [] := by
        intro e
        have := congrArg List.length e
        simp at this ht
        rw [this] at ht
        simp at ht
      obtain ⟨o1, o2⟩ := lean_one (thinG ((kids p).map (thinW n)) 1) (fun r hr => hl r (thinG_mem _ _ r hr)) (thinG_some _ hne) (thinG_holl _)
      refine ⟨o1, ?_⟩
      rw [o2]
      funext u
      rw [langS, eq_iff_iff, alt_thin]
      unfold langF
      rw [if_neg (by omega), if_neg k2, if_pos k3, ← hm]
      constructor
      · rintro ⟨r, hr, hu⟩
        exact ⟨_, List.mem_map_of_mem hr, hu⟩
      · rintro ⟨L, hL, hu⟩
        obtain ⟨r, hr, rfl⟩ := List.mem_map.1 hL
        exact ⟨r, hr, hu⟩
    by_cases k4 : kind p = 4
    · rw [if_neg (by omega), if_neg k2, if_neg k3, if_pos k4] at ht
      obtain ⟨q, hq⟩ := List.length_eq_one_iff.1 (right_one hr k4)
      have iq := ih q (by rw [hq]; exact List.mem_cons_self ..)
      have hL : LangN (n + 1) p = TimesS (LangN n q) (min_ p) (max_ p) := by
        funext u
        rw [langS]
        unfold langF
        rw [if_neg (by omega), if_neg k2, if_neg k3, hq]
        rfl
      have htm : timesP (min_ p) (max_ p) = true := by
        simp only [Bool.and_eq_true] at ht
        exact ht.1.1.2
      have htt := htm
      unfold timesP at htt
      simp at htt
      rw [hL, thin_e4 k4 hq]
      show (foldP leanF (if max_ p = 0 ∨ hollowP (thinW n q) = true then mkP 2 0 0 0 0 [] else mkP 4 0 0 (min_ p) (max_ p) [thinW n q])).2 = true ∧ LangP (if max_ p = 0 ∨ hollowP (thinW n q) = true then mkP 2 0 0 0 0 [] else mkP 4 0 0 (min_ p) (max_ p) [thinW n q]) = _
      by_cases hz : max_ p = 0 ∨ hollowP (thinW n q) = true
      · rw [if_pos hz]
        refine ⟨lean_nil, ?_⟩
        rw [lang_mk2]
        funext u
        rw [eq_iff_iff]
        show u = [] ↔ _
        rcases hz with hz | hz
        · constructor
          · rintro rfl
            exact ⟨0, by omega, .inr (by omega), rfl⟩
          · rintro ⟨k, h1, h2, h3⟩
            obtain rfl : k = 0 := by omega
            exact h3
        · have e : LangN n q = fun u => u = [] := by rw [← iq.2]; exact hollow_lang hz
          rw [e]
          constructor
          · intro h
            exact ⟨(min_ p).toNat, by omega, by omega, (pow_nil _ _).2 h⟩
          · rintro ⟨k, _, _, h3⟩
            exact (pow_nil k u).1 h3
      · rw [if_neg hz]
        constructor
        · rw [fold_mk]
          rw [lean_snd]
          rw [if_neg (by decide), if_neg (by decide), if_neg (by decide)]
          simp only [List.map_cons, List.map_nil, List.all_cons, List.all_nil, Bool.and_true]
          have h1 : (foldP leanF (thinW n q)).1 = false := by rw [← hollow_fold]; simpa using fun h => hz (.inr h)
          rw [h1, iq.1, htm]
          have : ¬ max_ p = 0 := fun h => hz (.inl h)
          simp [this]
        · unfold LangP
          rw [fold_mk]
          funext u
          unfold langF
          rw [if_neg (by decide), if_neg (by decide), if_neg (by decide)]
          show TimesS (LangP (thinW n q)) _ _ u = _
          rw [iq.2]
    by_cases k1 : kind p = 1
    · rw [thin_e1 (n + 1) p k1]
      refine ⟨?_, rfl⟩
      rw [if_pos k1] at ht
      show (leanF (kind p) (from_ p) (to_ p) (min_ p) (max_ p) _).2 = true
      rw [lean_snd]
      rw [if_pos k1]
      simp at ht ⊢
      omega
    · rw [if_neg k1, if_neg k2, if_neg k3, if_neg k4] at ht
      cases ht

end Ex
end Go.Proofs.YtfajoknacfjedaaGreatDoor
namespace Go.Proofs.YtfajoknacfjedaaGreatDoor
open Go.RowKit
namespace Ex

/-- So many takers and forks are laid. -/
def Cnt (M : Nat → St → Nat × St) (a b : Nat) : Prop := ∀ next st, (M next st).2.1.length = st.1.length + a ∧ (M next st).2.2.length = st.2.length + b
theorem cnt_none : Cnt (fun next st => (next, st)) 0 0 := fun _ _ => ⟨rfl, rfl⟩
theorem cnt_range {n : Nat} (q : PatN (n + 1)) : Cnt (rangeL q) 1 0 := fun next st => by
  unfold rangeL
  simp
theorem cnt_row {n : Nat} {F : PatN (n + 1) → Nat → St → Nat × St} {f g : PatN (n + 1) → Nat} : ∀ (l : List (PatN (n + 1))), (∀ q ∈ l, Cnt (F q) (f q) (g q)) → Cnt (rowL F l) (l.map f).sum (l.map g).sum
  | [], _ => cnt_none
  | q :: l, h => fun next st => by
    have h1 := h q (by simp) next st
    have h2 := cnt_row l (fun r hr => h r (by simp [hr])) (F q next st).1 (F q next st).2
    have e : rowL F (q :: l) next st = rowL F l (F q next st).1 (F q next st).2 := rfl
    rw [e, List.map_cons, List.map_cons, List.sum_cons, List.sum_cons]
    omega
theorem cnt_alt {n : Nat} {F : PatN (n + 1) → Nat → St → Nat × St} {f g : PatN (n + 1) → Nat} : ∀ (l : List (PatN (n + 1))), (∀ q ∈ l, Cnt (F q) (f q) (g q)) → ∀ first, Cnt (altL F l first) (l.map f).sum ((l.map g).sum + l.length)
  | [], _, _ => fun _ _ => ⟨rfl, rfl⟩
  | q :: l, h, first => fun next st => by
    have h1 := h q (by simp) next st
    have h2 := cnt_alt l (fun r hr => h r (by simp [hr])) (4097 + (F q next st).2.2.length) next ((F q next st).2.1, (F q next st).2.2 ++ [(first, (F q next st).1)])
    simp only [List.length_append, List.length_singleton] at h2
    rw [altL, List.map_cons, List.map_cons, List.sum_cons, List.sum_cons, List.length_cons]
    omega
theorem cnt_alts {n : Nat} {F : PatN (n + 1) → Nat → St → Nat × St} {f g : PatN (n + 1) → Nat} (q : PatN (n + 1)) (l : List (PatN (n + 1))) (h : ∀ r ∈ q :: l, Cnt (F r) (f r) (g r)) : Cnt (altsL F q l) ((q :: l).map f).sum (((q :: l).map g).sum + l.length) := fun next st => by
  have h1 := h q (by simp) next st
  have h2 := cnt_alt l (fun r hr => h r (by simp [hr])) (F q next st).1 next (F q next st).2
  unfold altsL
  rw [List.map_cons, List.map_cons, List.sum_cons, List.sum_cons]
  omega
theorem cnt_copies {L : Nat → St → Nat × St} {a b : Nat} (h : Cnt L a b) : ∀ m, Cnt (copiesL L m) (m * a) (m * b)
  | 0 => by rw [Nat.zero_mul, Nat.zero_mul]; exact cnt_none
  | m + 1 => fun next st => by
    have h1 := h next st
    have h2 := cnt_copies h m (L next st).1 (L next st).2
    rw [copiesL, Nat.succ_mul, Nat.succ_mul]
    omega
theorem cnt_opt {L : Nat → St → Nat × St} {a b : Nat} (h : Cnt L a b) (after : Nat) : ∀ m, Cnt (optL L after m) (m * a) (m * b + m)
  | 0 => by rw [Nat.zero_mul, Nat.zero_mul]; exact cnt_none
  | m + 1 => fun next st => by
    have h1 := h next st
    have h2 := cnt_opt h after m (4097 + (L next st).2.2.length) ((L next st).2.1, (L next st).2.2 ++ [((L next st).1, after)])
    simp only [List.length_append, List.length_singleton] at h2
    rw [optL, Nat.succ_mul, Nat.succ_mul]
    omega
theorem cnt_bound {L : Nat → St → Nat × St} {a b : Nat} (h : Cnt L a b) {mn mx : Int} (h0 : 0 ≤ mn) (h1 : mn ≤ mx) : Cnt (boundL L mn mx) (mx.toNat * a) (mx.toNat * b + (mx - mn).toNat) := fun next st => by
  have h2 := cnt_opt h next (mx - mn).toNat next st
  have h3 := cnt_copies h mn.toNat (optL L next (mx - mn).toNat next st).1 (optL L next (mx - mn).toNat next st).2
  unfold boundL
  have e : mx.toNat = mn.toNat + (mx - mn).toNat := by omega
  rw [e, Nat.add_mul, Nat.add_mul]
  omega
theorem cnt_endless {L : Nat → St → Nat × St} {a b : Nat} (h : Cnt L a b) (mn : Int) : Cnt (endlessL L mn) ((max mn 1).toNat * a) ((max mn 1).toNat * b + 1) := fun next st => by
  have h1 := h (4097 + st.2.length) (st.1, st.2 ++ [(next, next)])
  have h2 : (loopL L mn next st).2.1.length = st.1.length + a ∧ (loopL L mn next st).2.2.length = st.2.length + b + 1 := by
    unfold loopL
    simp only [List.length_set, List.length_append, List.length_singleton] at h1 ⊢
    omega
  have h3 := cnt_copies h (max mn 1 - 1).toNat (loopL L mn next st).1 (loopL L mn next st).2
  unfold endlessL
  have e : (max mn 1).toNat = (max mn 1 - 1).toNat + 1 := by omega
  rw [e, Nat.succ_mul, Nat.succ_mul]
  omega
def timesN (mn mx : Int) : Nat := if mx = -1 then (max mn 1).toNat else mx.toNat
/-- Takers; forks; levels. -/
def tkF (k _a _b mn mx : Int) (ls : List Nat) : Nat := if k = 1 then 1 else if k = 2 ∨ k = 3 then ls.sum else timesN mn mx * ls.headD 0
def fkF (k _a _b mn mx : Int) (ls : List Nat) : Nat := if k = 1 then 0 else if k = 2 then ls.sum else if k = 3 then ls.sum + (ls.length - 1) else timesN mn mx * ls.headD 0 + (if mx = -1 then 1 else (mx - mn).toNat)
def dpF (k _a _b _mn _mx : Int) (ls : List Nat) : Nat := if k = 1 then 0 else 1 + ls.foldr max 0
theorem tk_eq (k a b mn mx : Int) (ls : List Nat) : tkF k a b mn mx ls = if k = 1 then 1 else if k = 2 ∨ k = 3 then ls.sum else timesN mn mx * ls.headD 0 := rfl
theorem fk_eq (k a b mn mx : Int) (ls : List Nat) : fkF k a b mn mx ls = if k = 1 then 0 else if k = 2 then ls.sum else if k = 3 then ls.sum + (ls.length - 1) else timesN mn mx * ls.headD 0 + (if mx = -1 then 1 else (mx - mn).toNat) := rfl
theorem dp_eq (k a b mn mx : Int) (ls : List Nat) : dpF k a b mn mx ls = if k = 1 then 0 else 1 + ls.foldr max 0 := rfl
theorem sum_rev (l : List Nat) : l.reverse.sum = l.sum := by
  induction l with
  | nil => rfl
  | cons x l ih => rw [List.reverse_cons, List.sum_append, ih, List.sum_cons]; simp; omega
theorem lay_count : ∀ (n : Nat) (q : PatN (n + 1)), LeanOk n q → Cnt (layV n q) (foldN tkF n q) (foldN fkF n q)
  | 0, q, h => by
    unfold layV foldN tkF fkF
    rcases h with h | h
    · rw [if_neg (by omega), if_pos h, if_pos h]
      exact cnt_range q
    · rw [if_pos h, if_neg (by omega), if_pos (.inl h), if_neg (by omega), if_pos h]
      exact cnt_none
  | n + 1, q, h => by
    have ih := lay_count n
    have e1 : foldN tkF (n + 1) q = tkF (kind q) (from_ q) (to_ q) (min_ q) (max_ q) ((kids q).map (foldN tkF n)) := rfl
    have e2 : foldN fkF (n + 1) q = fkF (kind q) (from_ q) (to_ q) (min_ q) (max_ q) ((kids q).map (foldN fkF n)) := rfl
    rw [e1, e2]
    rcases h with h | ⟨h, h2⟩ | ⟨h, h1, h2⟩ | ⟨h, h1, h2, h3, h4, h5⟩
    · unfold layV
      rw [tk_eq, fk_eq, if_pos h, if_pos h, if_pos h]
      exact cnt_range q
    · have := cnt_row (F := layV n) (f := foldN tkF n) (g := foldN fkF n) (kids q).reverse (fun r hr => ih r (h2 r (List.mem_reverse.1 hr)))
      rw [List.map_reverse, List.map_reverse, sum_rev, sum_rev] at this
      unfold layV
      rw [tk_eq, fk_eq, if_neg (by omega), if_pos h, if_neg (by omega), if_pos (.inl h), if_neg (by omega), if_pos h]
      exact this
    · unfold layV
      rw [tk_eq, fk_eq, if_neg (by omega), if_neg (by omega), if_pos h, if_neg (by omega), if_pos (.inr h), if_neg (by omega), if_neg (by omega), if_pos h]
      obtain ⟨ks, hks⟩ : ∃ x, kids q = x := ⟨_, rfl⟩
      rw [hks] at h1 h2 ⊢
      cases ks with
      | nil => simp at h1
      | cons r l =>
        have := cnt_alts (F := layV n) (f := foldN tkF n) (g := foldN fkF n) r l (fun z hz => ih z (h2 z hz))
        have e : ((r :: l).map (foldN fkF n)).length - 1 = l.length := by simp
        rw [e]
        exact this
    · unfold layV
      rw [tk_eq, fk_eq, if_neg (by omega), if_neg (by omega), if_neg (by omega), if_neg (by omega), if_neg (by omega), if_neg (by omega), if_neg (by omega), if_neg (by omega)]
      obtain ⟨ks, hks⟩ : ∃ x, kids q = x := ⟨_, rfl⟩
      rw [hks] at h4 h5 ⊢
      cases ks with
      | nil => simp at h4
      | cons r l =>
        have hr := ih r (h5 r (by simp))
        show Cnt (if max_ q = -1 then endlessL (layV n r) (min_ q) else boundL (layV n r) (min_ q) (max_ q)) (timesN (min_ q) (max_ q) * foldN tkF n r) (timesN (min_ q) (max_ q) * foldN fkF n r + _)
        unfold timesN
        by_cases hm : max_ q = -1
        · rw [if_pos hm, if_pos hm, if_pos hm]
          exact cnt_endless hr _
        · rw [if_neg hm, if_neg hm, if_neg hm]
          have h3 := h3.resolve_left hm
          exact cnt_bound hr h1 h3.1
theorem max_mem {x : Nat} : ∀ {l : List Nat}, x ∈ l → x ≤ l.foldr max 0
  | y :: l, h => by
    rw [List.foldr_cons]
    rcases List.mem_cons.1 h with rfl | h
    · omega
    · have := max_mem h
      omega
theorem sum_le_mul {α : Type} (f g : α → Nat) (d : Nat) : ∀ (l : List α), (∀ x ∈ l, f x ≤ g x * d) → (l.map f).sum ≤ (l.map g).sum * d
  | [], _ => by simp
  | x :: l, h => by
    have h1 := h x (by simp)
    have h2 := sum_le_mul f g d l (fun y hy => h y (by simp [hy]))
    rw [List.map_cons, List.map_cons, List.sum_cons, List.sum_cons, Nat.add_mul]
    omega
theorem len_sum {α : Type} (f : α → Nat) (h : α → Bool) : ∀ (l : List α), (∀ x ∈ l, h x = false → 1 ≤ f x) → l.length ≤ (l.map f).sum + (l.filter h).length
  | [], _ => by simp
  | x :: l, hh => by
    have h1 := hh x (by simp)
    have h2 := len_sum f h l (fun y hy => hh y (by simp [hy]))
    rw [List.map_cons, List.sum_cons, List.length_cons, List.filter_cons]
    by_cases hx : h x = true
    · rw [if_pos hx, List.length_cons]
      omega
    · have := h1 (by simpa using hx)
      rw [if_neg hx]
      omega
theorem fk_le : ∀ (n : Nat) (q : PatN (n + 1)), (foldN leanF n q).2 = true → foldN fkF n q ≤ foldN tkF n q * foldN dpF n q ∧ ((foldN leanF n q).1 = false → 1 ≤ foldN tkF n q)
  | 0, q, h => by
    have h' : (leanF (kind q) (from_ q) (to_ q) (min_ q) (max_ q) []).2 = true := h
    rw [lean_snd] at h'
    show fkF (kind q) (from_ q) (to_ q) (min_ q) (max_ q) [] ≤ tkF (kind q) (from_ q) (to_ q) (min_ q) (max_ q) [] * _ ∧ ((kind q == 2 && true) = false → 1 ≤ tkF (kind q) (from_ q) (to_ q) (min_ q) (max_ q) [])
    unfold fkF tkF
    by_cases h1 : kind q = 1
    · rw [if_pos h1, if_pos h1]
      exact ⟨Nat.zero_le _, fun _ => Nat.le_refl _⟩
    rw [if_neg h1] at h'
    by_cases h2 : kind q = 2
    · rw [if_neg h1, if_pos h2, if_neg h1, if_pos (.inl h2)]
      exact ⟨Nat.zero_le _, fun e => by rw [h2] at e; cases e⟩
    rw [if_neg h2] at h'
    by_cases h3 : kind q = 3
    · rw [if_pos h3] at h'; simp at h'
    · rw [if_neg h3] at h'; simp at h'
  | n + 1, q, h => by
    have h' : (leanF (kind q) (from_ q) (to_ q) (min_ q) (max_ q) ((kids q).map (foldN leanF n))).2 = true := h
    have ih := fk_le n
    rw [lean_snd] at h'
    have e1 : foldN tkF (n + 1) q = tkF (kind q) (from_ q) (to_ q) (min_ q) (max_ q) ((kids q).map (foldN tkF n)) := rfl
    have e2 : foldN fkF (n + 1) q = fkF (kind q) (from_ q) (to_ q) (min_ q) (max_ q) ((kids q).map (foldN fkF n)) := rfl
    have e3 : foldN dpF (n + 1) q = dpF (kind q) (from_ q) (to_ q) (min_ q) (max_ q) ((kids q).map (foldN dpF n)) := rfl
    have e4 : (foldN leanF (n + 1) q).1 = (kind q == 2 && ((kids q).map (foldN leanF n)).isEmpty) := rfl
    rw [e1, e2, e3, e4]
    rw [fk_eq, tk_eq, dp_eq]
    by_cases h1 : kind q = 1
    · rw [if_pos h1, if_pos h1]
      exact ⟨Nat.zero_le _, fun _ => Nat.le_refl _⟩
    rw [if_neg h1] at h'
    rw [if_neg h1, if_neg h1, if_neg h1]
    obtain ⟨D, hD⟩ : ∃ D, ((kids q).map (foldN dpF n)).foldr max 0 = D := ⟨_, rfl⟩
    rw [hD]
    have hd : ∀ r ∈ kids q, foldN dpF n r ≤ D := fun r hr => by rw [← hD]; exact max_mem (List.mem_map_of_mem hr)
    have hsum : (∀ r ∈ kids q, (foldN leanF n r).2 = true) → ((kids q).map (foldN fkF n)).sum ≤ ((kids q).map (foldN tkF n)).sum * D := fun hl => sum_le_mul _ _ D _ (fun r hr => Nat.le_trans (ih r (hl r hr)).1 (Nat.mul_le_mul_left _ (hd r hr)))
    by_cases h2 : kind q = 2
    · rw [if_pos h2] at h'
      rw [if_pos h2, if_pos (.inl h2)]
      have ha : ∀ r ∈ kids q, (foldN leanF n r).1 = false ∧ (foldN leanF n r).2 = true := fun r hr => by
        have := List.all_eq_true.1 h' _ (List.mem_map_of_mem hr)
        simpa using this
      have h5 := hsum (fun r hr => (ha r hr).2)
      refine ⟨by rw [Nat.mul_add, Nat.mul_one]; omega, fun he => ?_⟩
      have h6 := len_sum (foldN tkF n) (fun _ => false) (kids q) (fun r hr _ => (ih r (ha r hr).2).2 (ha r hr).1)
      have h7 : kids q ≠ [] := fun e => by rw [e, h2] at he; cases he
      have := List.length_pos_iff.2 h7
      have e : ((kids q).filter (fun _ => false)).length = 0 := by simp
      omega
    rw [if_neg h2] at h'
    rw [if_neg h2]
    by_cases h3 : kind q = 3
    · rw [if_pos h3] at h'
      rw [if_pos h3, if_pos (.inr h3)]
      simp only [Bool.and_eq_true, decide_eq_true_eq] at h'
      have ha : ∀ r ∈ kids q, (foldN leanF n r).2 = true := fun r hr => List.all_eq_true.1 h'.1.2 _ (List.mem_map_of_mem hr)
      have h5 := hsum ha
      have h6 := len_sum (foldN tkF n) (fun r => (foldN leanF n r).1) (kids q) (fun r hr he => (ih r (ha r hr)).2 he)
      have h7 : ((kids q).filter (fun r => (foldN leanF n r).1)).length ≤ 1 := by
        have := h'.2
        rw [List.filter_map, List.length_map] at this
        exact this
      have h8 := h'.1.1
      rw [List.length_map] at h8 ⊢
      exact ⟨by rw [Nat.mul_add, Nat.mul_one]; omega, fun _ => by omega⟩
    · rw [if_neg h3] at h'
      rw [if_neg h3, if_neg (show ¬ (kind q = 2 ∨ kind q = 3) from fun h => h.elim h2 h3)]
      simp only [Bool.and_eq_true, beq_iff_eq, decide_eq_true_eq, List.length_map] at h'
      obtain ⟨⟨⟨⟨h4, ht⟩, hm⟩, hl⟩, ha⟩ := h'
      obtain ⟨r, hr⟩ := List.length_eq_one_iff.1 hl
      have ha2 := List.all_eq_true.1 ha (foldN leanF n r) (by rw [hr]; simp)
      simp at ha2
      have hq := ih r ha2.2
      have hq1 := hq.2 ha2.1
      have hdr := hd r (by rw [hr]; simp)
      have hq2 : foldN fkF n r ≤ foldN tkF n r * D := Nat.le_trans hq.1 (Nat.mul_le_mul_left _ hdr)
      unfold timesP at ht
      simp at ht hm
      rw [hr]
      show timesN (min_ q) (max_ q) * foldN fkF n r + _ ≤ timesN (min_ q) (max_ q) * foldN tkF n r * (1 + D) ∧ (_ → 1 ≤ timesN (min_ q) (max_ q) * foldN tkF n r)
      have hT : 1 ≤ timesN (min_ q) (max_ q) ∧ (if max_ q = -1 then 1 else (max_ q - min_ q).toNat) ≤ timesN (min_ q) (max_ q) := by
        unfold timesN
        split <;> omega
      generalize timesN (min_ q) (max_ q) = T at hT ⊢
      generalize (if max_ q = -1 then 1 else (max_ q - min_ q).toNat) = E at hT ⊢
      generalize foldN tkF n r = A at hq1 hq2 ⊢
      generalize foldN fkF n r = B at hq2 ⊢
      have k1 : T * B ≤ T * (A * D) := Nat.mul_le_mul_left _ hq2
      have k2 : T ≤ T * A := Nat.le_mul_of_pos_right _ hq1
      refine ⟨?_, fun _ => by omega⟩
      rw [Nat.mul_add, Nat.mul_one, Nat.mul_assoc]
      omega

end Ex
end Go.Proofs.YtfajoknacfjedaaGreatDoor
namespace Go.Proofs.YtfajoknacfjedaaGreatDoor
open Go.RowKit
namespace Ex

theorem thinG_sum (f : Pat → Nat) : ∀ (l : List Pat) (k : Int), ((thinG l k).map f).sum ≤ (l.map f).sum
  | [], _ => Nat.le_refl _
  | p :: l, k => by
    rw [thinG, List.map_cons, List.sum_cons]
    split
    · split
      · have := thinG_sum f l (k - 1); omega
      · rw [List.map_cons, List.sum_cons]
        have := thinG_sum f l (k - 1); omega
    · rw [List.map_cons, List.sum_cons]
      have := thinG_sum f l k; omega
theorem one_tk : ∀ (l : List Pat), foldP tkF (oneOf 3 l) = (l.map (foldP tkF)).sum
  | [] => by
    show foldP tkF (mkP 3 0 0 0 0 []) = _
    rw [fold_mk]; rfl
  | [p] => by simp [oneOf]
  | p :: q :: l => by
    show foldP tkF (mkP 3 0 0 0 0 (p :: q :: l)) = _
    rw [fold_mk]; rfl
theorem sum_cast {α : Type} (f : α → Nat) (g : α → Int) : ∀ (l : List α), (∀ x ∈ l, (f x : Int) ≤ g x) → ((l.map f).sum : Int) ≤ (l.map g).sum
  | [], _ => by simp
  | x :: l, h => by
    have h1 := h x (by simp)
    have h2 := sum_cast f g l (fun y hy => h y (by simp [hy]))
    rw [List.map_cons, List.map_cons, List.sum_cons, List.sum_cons]
    omega
theorem thin_tk : ∀ (n : Nat) (p : PatN (n + 1)), rightP (n + 1) p = true → posP (n + 1) p ≤ 4096 → ((foldP tkF (thinW n p) : Nat) : Int) ≤ posP (n + 1) p
  | 0, p, hr, _ => by
    have hp0 := (pos_in (0 + 1) p hr).1
    have h' : (topOf p && (kids p).all (rightP 0)) = true := hr
    rw [Bool.and_eq_true] at h'
    have ht := h'.1
    unfold topOf topP at ht
    rw [none_of (kids p)] at ht
    by_cases k2 : kind p = 2
    · have e : thinW 0 p = mkP 2 0 0 0 0 [] := by unfold thinW; rw [if_pos k2]
      rw [e, fold_mk]
      exact hp0
    by_cases k1 : kind p = 1
    · rw [thin_e1 0 p k1]
      have e : posP (0 + 1) p = 1 := by rw [posP, if_pos k1]
      rw [e]
      show ((tkF (kind p) (from_ p) (to_ p) (min_ p) (max_ p) [] : Nat) : Int) ≤ 1
      rw [tk_eq, if_pos k1]
      exact Int.le_refl _
    by_cases k3 : kind p = 3
    · rw [if_neg k1, if_neg k2, if_pos k3] at ht
      simp at ht
    by_cases k4 : kind p = 4
    · rw [if_neg k1, if_neg k2, if_neg k3, if_pos k4] at ht
      simp at ht
    rw [if_neg k1, if_neg k2, if_neg k3, if_neg k4] at ht
    cases ht
  | n + 1, p, hr, hp => by
    have hp0 := (pos_in (n + 1 + 1) p hr).1
    have h' : (topOf p && (kids p).all (rightP (n + 1))) = true := hr
    rw [Bool.and_eq_true] at h'
    have ht := h'.1
    have hk := List.all_eq_true.1 h'.2
    have hnn : ∀ q ∈ kids p, 0 ≤ posP (n + 1) q := fun q hq => (pos_in (n + 1) q (hk q hq)).1
    unfold topOf topP at ht
    by_cases k1 : kind p = 1
    · rw [thin_e1 (n + 1) p k1]
      have e : posP (n + 1 + 1) p = 1 := by rw [posP, if_pos k1]
      rw [e]
      show ((tkF (kind p) (from_ p) (to_ p) (min_ p) (max_ p) _ : Nat) : Int) ≤ 1
      rw [tk_eq, if_pos k1]
      exact Int.le_refl _
    by_cases k4 : kind p = 4
    · obtain ⟨q, hq⟩ := List.length_eq_one_iff.1 (right_one hr k4)
      rw [thin_e4 k4 hq]
      by_cases hz : max_ p = 0 ∨ hollowP (thinW n q) = true
      · rw [if_pos hz, fold_mk]
        exact hp0
      rw [if_neg hz, fold_mk, tk_eq, if_neg (by decide), if_neg (by decide)]
      have k3 : ¬ kind p = 3 := by omega
      rw [if_neg k1, if_neg (by omega), if_neg k3, if_pos k4] at ht
      simp [timesP] at ht
      have hm : ¬ max_ p = 0 := fun e => hz (.inl e)
      rw [posP, if_neg k1, if_pos k4, hq] at hp ⊢
      have hqr := hk q (by rw [hq]; exact List.mem_cons_self ..)
      have hq9 := (pos_in (n + 1) q hqr)
      have hfo : [q].foldl (fun acc q => min (acc + posP (n + 1) q) 4097) 0 = posP (n + 1) q := by
        simp
        omega
      rw [hfo] at hp ⊢
      have hc : (timesN (min_ p) (max_ p) : Int) = copiesP (min_ p) (max_ p) ∧ 1 ≤ copiesP (min_ p) (max_ p) := by
        unfold copiesP timesN
        split <;> omega
      have h2 : posP (n + 1) q ≤ posP (n + 1) q * copiesP (min_ p) (max_ p) := by
        have := Int.mul_le_mul_of_nonneg_left hc.2 hq9.1
        simpa using this
      have ih := thin_tk n q hqr (by omega)
      show (((timesN (min_ p) (max_ p)) * foldP tkF (thinW n q) : Nat) : Int) ≤ _
      rw [Int.natCast_mul, hc.1]
      have h3 : copiesP (min_ p) (max_ p) * ((foldP tkF (thinW n q) : Nat) : Int) ≤ copiesP (min_ p) (max_ p) * posP (n + 1) q := Int.mul_le_mul_of_nonneg_left ih (by omega)
      rw [Int.mul_comm _ (posP (n + 1) q)] at h3
      omega
    · rw [posP, if_neg k1, if_neg k4] at hp ⊢
      obtain ⟨hs, _⟩ := fold_sum (posP (n + 1)) (kids p) 0 hnn (by omega) hp
      rw [hs] at hp ⊢
      have hsm := sum_mem (posP (n + 1)) (kids p) hnn
      have ih : ∀ q ∈ kids p, ((foldP tkF (thinW n q) : Nat) : Int) ≤ posP (n + 1) q := fun q hq => thin_tk n q (hk q hq) (by have := hsm.2 q hq; omega)
      have hc := sum_cast (fun q => foldP tkF (thinW n q)) (posP (n + 1)) (kids p) ih
      have hmm : ((kids p).map (thinW n)).map (foldP tkF) = (kids p).map (fun q => foldP tkF (thinW n q)) := by rw [List.map_map]; rfl
      by_cases k2 : kind p = 2
      · rw [thin_e2 k2, fold_mk, tk_eq, if_neg (by decide), if_pos (.inl rfl)]
        have := thinG_sum (foldP tkF) ((kids p).map (thinW n)) 0
        rw [hmm] at this
        omega
      by_cases k3 : kind p = 3
      · rw [thin_e3 k3, one_tk]
        have := thinG_sum (foldP tkF) ((kids p).map (thinW n)) 1
        rw [hmm] at this
        omega
      rw [if_neg k1, if_neg k2, if_neg k3, if_neg k4] at ht
      cases ht
theorem fold_max_ge {α : Type} (f : α → Int) : ∀ (l : List α) (a : Int), a ≤ l.foldl (fun m q => max m (1 + f q)) a ∧ ∀ q ∈ l, 1 + f q ≤ l.foldl (fun m q => max m (1 + f q)) a
  | [], a => ⟨Int.le_refl _, fun q hq => by cases hq⟩
  | x :: l, a => by
    have h := fold_max_ge f l (max a (1 + f x))
    rw [List.foldl_cons]
    refine ⟨by omega, fun q hq => ?_⟩
    rcases List.mem_cons.1 hq with rfl | hq
    · omega
    · exact h.2 q hq
theorem max_le {D : Nat} : ∀ {l : List Nat}, (∀ x ∈ l, x ≤ D) → l.foldr max 0 ≤ D
  | [], _ => Nat.zero_le _
  | y :: l, h => by
    rw [List.foldr_cons]
    have h1 := h y (by simp)
    have h2 := max_le (D := D) (l := l) (fun x hx => h x (by simp [hx]))
    omega
theorem thin_dp : ∀ (n : Nat) (p : PatN (n + 1)), rightP (n + 1) p = true → ((foldP dpF (thinW n p) : Nat) : Int) ≤ depthP (n + 1) p
  | 0, p, hr => by
    have hd : 1 ≤ depthP (0 + 1) p := (fold_max_ge (depthP 0) (kids p) 1).1
    have h' : (topOf p && (kids p).all (rightP 0)) = true := hr
    rw [Bool.and_eq_true] at h'
    have ht := h'.1
    unfold topOf topP at ht
    rw [none_of (kids p)] at ht
    by_cases k2 : kind p = 2
    · have e : thinW 0 p = mkP 2 0 0 0 0 [] := by unfold thinW; rw [if_pos k2]
      rw [e, fold_mk]
      exact hd
    by_cases k1 : kind p = 1
    · rw [thin_e1 0 p k1]
      show ((dpF (kind p) (from_ p) (to_ p) (min_ p) (max_ p) [] : Nat) : Int) ≤ _
      rw [dp_eq, if_pos k1]
      show (0 : Int) ≤ _
      omega
    by_cases k3 : kind p = 3
    · rw [if_neg k1, if_neg k2, if_pos k3] at ht
      simp at ht
    by_cases k4 : kind p = 4
    · rw [if_neg k1, if_neg k2, if_neg k3, if_pos k4] at ht
      simp at ht
    rw [if_neg k1, if_neg k2, if_neg k3, if_neg k4] at ht
    cases ht
  | n + 1, p, hr => by
    have hd : 1 ≤ depthP (n + 1 + 1) p ∧ ∀ q ∈ kids p, 1 + depthP (n + 1) q ≤ depthP (n + 1 + 1) p := fold_max_ge (depthP (n + 1)) (kids p) 1
    have h' : (topOf p && (kids p).all (rightP (n + 1))) = true := hr
    rw [Bool.and_eq_true] at h'
    have ht := h'.1
    have hk := List.all_eq_true.1 h'.2
    unfold topOf topP at ht
    have ih : ∀ r ∈ (kids p).map (thinW n), foldP dpF r ≤ (depthP (n + 1 + 1) p - 1).toNat := fun r hr => by
      obtain ⟨q, hq, rfl⟩ := List.mem_map.1 hr
      have h1 := thin_dp n q (hk q hq)
      have h2 := hd.2 q hq
      omega
    have hmk : ∀ (k a b mn mx : Int) (l : List Pat), (∀ r ∈ l, r ∈ (kids p).map (thinW n)) → ((foldP dpF (mkP k a b mn mx l) : Nat) : Int) ≤ depthP (n + 1 + 1) p := fun k a b mn mx l hl => by
      rw [fold_mk, dp_eq]
      have : (l.map (foldP dpF)).foldr max 0 ≤ (depthP (n + 1 + 1) p - 1).toNat := max_le (fun x hx => by
        obtain ⟨r, hr, rfl⟩ := List.mem_map.1 hx
        exact ih r (hl r hr))
      split <;> omega
    by_cases k1 : kind p = 1
    · rw [thin_e1 (n + 1) p k1]
      show ((dpF (kind p) (from_ p) (to_ p) (min_ p) (max_ p) _ : Nat) : Int) ≤ _
      rw [dp_eq, if_pos k1]
      show (0 : Int) ≤ _
      omega
    by_cases k2 : kind p = 2
    · rw [thin_e2 k2]
      exact hmk _ _ _ _ _ _ (fun r hr => thinG_mem _ _ r hr)
    by_cases k3 : kind p = 3
    · rw [thin_e3 k3]
      have hmem : ∀ r ∈ thinG ((kids p).map (thinW n)) 1, r ∈ (kids p).map (thinW n) := fun r hr => thinG_mem _ _ r hr
      generalize thinG ((kids p).map (thinW n)) 1 = l at hmem ⊢
      match l, hmem with
      | [], hmem => exact hmk 3 0 0 0 0 [] hmem
      | [r], hmem =>
        have := ih r (hmem r (by simp))
        show ((foldP dpF r : Nat) : Int) ≤ _
        omega
      | r :: q :: l, hmem => exact hmk 3 0 0 0 0 (r :: q :: l) hmem
    by_cases k4 : kind p = 4
    · obtain ⟨q, hq⟩ := List.length_eq_one_iff.1 (right_one hr k4)
      rw [thin_e4 k4 hq]
      split
      · exact hmk 2 0 0 0 0 [] (fun r hr => by cases hr)
      · exact hmk 4 0 0 (min_ p) (max_ p) [thinW n q] (fun r hr => by rw [hq]; simpa using hr)
    rw [if_neg k1, if_neg k2, if_neg k3, if_neg k4] at ht
    cases ht
/-- Places that there are. -/
def OkP (s : St) (p : Nat) : Prop := p < s.1.length ∨ p = 4096 ∨ (4097 ≤ p ∧ p < 4097 + s.2.length)
def GoodS (s : St) : Prop := (∀ t ∈ s.1, OkP s t.2.2) ∧ ∀ f ∈ s.2, OkP s f.1 ∧ OkP s f.2
def GoodL (M : Nat → St → Nat × St) : Prop := ∀ next st, GoodS st → OkP st next → GoodS (M next st).2 ∧ OkP (M next st).2 (M next st).1
theorem OkP.mono {s s' : St} {p : Nat} (h : OkP s p) (h1 : s.1.length ≤ s'.1.length) (h2 : s.2.length ≤ s'.2.length) : OkP s' p := by
  rcases h with h | h | h
  · exact .inl (by omega)
  · exact .inr (.inl h)
  · exact .inr (.inr (by omega))
theorem good_fork {s : St} (h : GoodS s) {x y : Nat} (hx : OkP s x) (hy : OkP s y) : GoodS (s.1, s.2 ++ [(x, y)]) ∧ OkP (s.1, s.2 ++ [(x, y)]) (4097 + s.2.length) := by
  have hm : ∀ {p}, OkP s p → OkP (s.1, s.2 ++ [(x, y)]) p := fun h => h.mono (Nat.le_refl _) (by simp)
  refine ⟨⟨fun t ht => hm (h.1 t ht), fun f hf => ?_⟩, .inr (.inr (by simp))⟩
  rcases List.mem_append.1 hf with hf | hf
  · exact ⟨hm (h.2 f hf).1, hm (h.2 f hf).2⟩
  · rw [List.mem_singleton.1 hf]
    exact ⟨hm hx, hm hy⟩
theorem good_none : GoodL (fun next st => (next, st)) := fun _ _ h1 h2 => ⟨h1, h2⟩
theorem good_range {n : Nat} (q : PatN (n + 1)) : GoodL (rangeL q) := fun next st h1 h2 => by
  have hm : ∀ {p}, OkP st p → OkP (rangeL q next st).2 p := fun h => h.mono (by unfold rangeL; simp) (Nat.le_refl _)
  refine ⟨⟨fun t ht => ?_, fun f hf => ⟨hm (h1.2 f hf).1, hm (h1.2 f hf).2⟩⟩, .inl (by unfold rangeL; simp)⟩
  have ht : t ∈ st.1 ++ [(IntKind.u8.wrap (from_ q), IntKind.u8.wrap (to_ q), next)] := ht
  rcases List.mem_append.1 ht with ht | ht
  · exact hm (h1.1 t ht)
  · rw [List.mem_singleton.1 ht]
    exact hm h2
theorem good_row {n : Nat} {F : PatN (n + 1) → Nat → St → Nat × St} : ∀ (l : List (PatN (n + 1))), (∀ q ∈ l, GoodL (F q)) → GoodL (rowL F l)
  | [], _ => good_none
  | q :: l, h => fun next st h1 h2 => by
    obtain ⟨g1, g2⟩ := h q (by simp) next st h1 h2
    exact good_row l (fun r hr => h r (by simp [hr])) (F q next st).1 (F q next st).2 g1 g2
theorem good_copies {L : Nat → St → Nat × St} (h : GoodL L) : ∀ m, GoodL (copiesL L m)
  | 0 => good_none
  | m + 1 => fun next st h1 h2 => by
    obtain ⟨g1, g2⟩ := h next st h1 h2
    exact good_copies h m (L next st).1 (L next st).2 g1 g2
theorem good_alt {n : Nat} {F : PatN (n + 1) → Nat → St → Nat × St} : ∀ (l : List (PatN (n + 1))), (∀ q ∈ l, GoodL (F q)) → (∀ q ∈ l, Adds (F q)) → ∀ (first next : Nat) (st : St), GoodS st → OkP st next → OkP st first → GoodS (altL F l first next st).2 ∧ OkP (altL F l first next st).2 (altL F l first next st).1
  | [], _, _, _, _, _, h1, _, h3 => ⟨h1, h3⟩
  | q :: l, h, hA, first, next, st, h1, h2, h3 => by
    obtain ⟨g1, g2⟩ := h q (by simp) next st h1 h2
    have a1 := ((hA q (by simp)).inL next st).len
    obtain ⟨f1, f2⟩ := good_fork g1 (h3.mono a1.1 a1.2) g2
    exact good_alt l (fun r hr => h r (by simp [hr])) (fun r hr => hA r (by simp [hr])) _ next _ f1 (h2.mono a1.1 (Nat.le_trans a1.2 (by simp))) f2
theorem good_alts {n : Nat} {F : PatN (n + 1) → Nat → St → Nat × St} (q : PatN (n + 1)) (l : List (PatN (n + 1))) (h : ∀ r ∈ q :: l, GoodL (F r)) (hA : ∀ r ∈ q :: l, Adds (F r)) : GoodL (altsL F q l) := fun next st h1 h2 => by
  obtain ⟨g1, g2⟩ := h q (by simp) next st h1 h2
  have a1 := ((hA q (by simp)).inL next st).len
  exact good_alt l (fun r hr => h r (by simp [hr])) (fun r hr => hA r (by simp [hr])) _ next _ g1 (h2.mono a1.1 a1.2) g2
theorem good_opt {L : Nat → St → Nat × St} (h : GoodL L) (hA : Adds L) (after : Nat) : ∀ (m next : Nat) (st : St), GoodS st → OkP st next → OkP st after → GoodS (optL L after m next st).2 ∧ OkP (optL L after m next st).2 (optL L after m next st).1
  | 0, _, _, h1, h2, _ => ⟨h1, h2⟩
  | m + 1, next, st, h1, h2, h3 => by
    obtain ⟨g1, g2⟩ := h next st h1 h2
    have a1 := (hA.inL next st).len
    obtain ⟨f1, f2⟩ := good_fork g1 g2 (h3.mono a1.1 a1.2)
    exact good_opt h hA after m _ _ f1 f2 (h3.mono a1.1 (Nat.le_trans a1.2 (by simp)))
theorem good_bound {L : Nat → St → Nat × St} (h : GoodL L) (hA : Adds L) (mn mx : Int) : GoodL (boundL L mn mx) := fun next st h1 h2 => by
  obtain ⟨g1, g2⟩ := good_opt h hA next (mx - mn).toNat next st h1 h2 h2
  exact good_copies h mn.toNat _ _ g1 g2
theorem good_endless {L : Nat → St → Nat × St} (h : GoodL L) (hA : Adds L) (mn : Int) : GoodL (endlessL L mn) := fun next st h1 h2 => by
  obtain ⟨f1, f2⟩ := good_fork h1 h2 h2
  obtain ⟨g1, g2⟩ := h (4097 + st.2.length) (st.1, st.2 ++ [(next, next)]) f1 f2
  have a1 := (hA.inL (4097 + st.2.length) (st.1, st.2 ++ [(next, next)])).len
  simp only [List.length_append, List.length_singleton] at a1
  have hl1 : (loopL L mn next st).2.1.length = (L (4097 + st.2.length) (st.1, st.2 ++ [(next, next)])).2.1.length := rfl
  have hl2 : (loopL L mn next st).2.2.length = (L (4097 + st.2.length) (st.1, st.2 ++ [(next, next)])).2.2.length := List.length_set ..
  have hm : ∀ {p}, OkP (L (4097 + st.2.length) (st.1, st.2 ++ [(next, next)])).2 p → OkP (loopL L mn next st).2 p := fun h => h.mono (Nat.le_of_eq hl1.symm) (Nat.le_of_eq hl2.symm)
  have hag : OkP (loopL L mn next st).2 (4097 + st.2.length) := .inr (.inr (by omega))
  have hnx : OkP (loopL L mn next st).2 next := h2.mono (by omega) (by omega)
  have gl : GoodS (loopL L mn next st).2 := by
    refine ⟨fun t ht => hm (g1.1 t ht), fun f hf => ?_⟩
    obtain ⟨i, hi⟩ := List.getElem?_of_mem hf
    obtain ⟨_, e1, _, e3⟩ := loop_in hA mn next st
    by_cases hne : i = st.2.length
    · rw [hne, e1] at hi
      cases hi
      exact ⟨hm g2, hnx⟩
    · rw [e3 i hne] at hi
      have := g1.2 f (List.mem_of_getElem? hi)
      exact ⟨hm this.1, hm this.2⟩
  refine good_copies h (max mn 1 - 1).toNat _ _ gl ?_
  show OkP _ (if mn = 0 then 4097 + st.2.length else _)
  split
  · exact hag
  · exact hm g2
theorem lay_good : ∀ (n : Nat) (q : PatN (n + 1)), LeanOk n q → GoodL (layV n q)
  | 0, q, h => by
    unfold layV
    rcases h with h | h
    · rw [if_neg (by omega)]
      exact good_range q
    · rw [if_pos h]
      exact good_none
  | n + 1, q, h => by
    have ih := lay_good n
    have iA : ∀ r, LeanOk n r → Adds (layV n r) := fun r hr => (lay_means n r hr).1
    rcases h with h | ⟨h, h2⟩ | ⟨h, h1, h2⟩ | ⟨h, h1, h2, h3, h4, h5⟩
    · unfold layV
      rw [if_pos h]
      exact good_range q
    · unfold layV
      rw [if_neg (by omega), if_pos h]
      exact good_row _ (fun r hr => ih r (h2 r (List.mem_reverse.1 hr)))
    · unfold layV
      rw [if_neg (by omega), if_neg (by omega), if_pos h]
      obtain ⟨ks, hks⟩ : ∃ x, kids q = x := ⟨_, rfl⟩
      rw [hks] at h1 h2 ⊢
      cases ks with
      | nil => simp at h1
      | cons r l => exact good_alts r l (fun z hz => ih z (h2 z hz)) (fun z hz => iA z (h2 z hz))
    · unfold layV
      rw [if_neg (by omega), if_neg (by omega), if_neg (by omega)]
      obtain ⟨ks, hks⟩ : ∃ x, kids q = x := ⟨_, rfl⟩
      rw [hks] at h4 h5 ⊢
      cases ks with
      | nil => simp at h4
      | cons r l =>
        have hr := h5 r (by simp)
        show GoodL (if max_ q = -1 then endlessL (layV n r) (min_ q) else boundL (layV n r) (min_ q) (max_ q))
        split
        · exact good_endless (ih r hr) (iA r hr) _
        · exact good_bound (ih r hr) (iA r hr) _ _

end Ex
end Go.Proofs.YtfajoknacfjedaaGreatDoor
