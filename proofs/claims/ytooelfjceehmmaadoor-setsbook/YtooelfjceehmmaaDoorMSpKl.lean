import Derived.Test.YtooelfjceehmmaaDoorMSpLc
import Derived.OwnWalk
import Derived.ArgAppend
namespace Go.Proofs.YtooelfjceehmmaaDoor
open Go.RowKit
set_option linter.unusedVariables false
namespace Ex
namespace Sh

def KT (S : Nat → Prop) (u v : World) : Prop := v.os = u.os ∧ v.tape = u.tape ∧ v.output = u.output ∧ u.heap.size ≤ v.heap.size ∧ ∀ k, k < u.heap.size → ¬ S k → v.heap[k]? = u.heap[k]?
theorem KT.trans {S : Nat → Prop} {u v w : World} (h : KT S u v) (k : KT S v w) : KT S u w := ⟨k.1.trans h.1, k.2.1.trans h.2.1, k.2.2.1.trans h.2.2.1, Nat.le_trans h.2.2.2.1 k.2.2.2.1, fun d hd h1 => (k.2.2.2.2 d (Nat.lt_of_lt_of_le hd h.2.2.2.1) h1).trans (h.2.2.2.2 d hd h1)⟩
theorem _root_.Go.Proofs.YtooelfjceehmmaaDoor.Ex.Kept.kt (S : Nat → Prop) {u v : World} (h : Kept u v) : KT S u v := ⟨h.1, h.2.1, h.2.2.1, h.2.2.2.1, fun k hk _ => h.2.2.2.2 k hk⟩
theorem KT.mono {S S' : Nat → Prop} {u v : World} (h : KT S u v) (hs : ∀ k, S k → S' k) : KT S' u v := ⟨h.1, h.2.1, h.2.2.1, h.2.2.2.1, fun k hk hn => h.2.2.2.2 k hk (fun e => hn (hs k e))⟩
theorem set_kt (w : World) (g o : Nat) (u : Value) : KT (fun k => k = g) w (w.setCell ⟨g, o, none⟩ u) := ⟨rfl, rfl, rfl, by simp [World.setCell], fun k _ hn => Below.heap_setCell _ _ _ _ hn⟩
/-- Elements of equal width, as one row of cells. -/
theorem flat_get {sz : Nat} (hs : 0 < sz) : ∀ (E : List (List Value)), (∀ x ∈ E, x.length = sz) → ∀ k, E.flatten[k]? = (E[k / sz]?).bind (fun x => x[k % sz]?)
  | [], _, k => by simp
  | x :: E, h, k => by
    have hx := h x List.mem_cons_self
    rw [List.flatten_cons]
    by_cases hk : k < sz
    · rw [List.getElem?_append_left (by omega), Nat.div_eq_of_lt hk, Nat.mod_eq_of_lt hk]
      rfl
    · rw [List.getElem?_append_right (by omega), hx, flat_get hs E (fun y hy => h y (List.mem_cons_of_mem _ hy))]
      have e1 : k / sz = (k - sz) / sz + 1 := by
        rw [Nat.div_eq_sub_div hs (by omega)]
      have e2 : k % sz = (k - sz) % sz := by rw [Nat.mod_eq_sub_mod (by omega)]
      rw [e1, e2, List.getElem?_cons_succ]
theorem flat_len {sz : Nat} : ∀ (E : List (List Value)), (∀ x ∈ E, x.length = sz) → E.flatten.length = E.length * sz
  | [], _ => by simp
  | x :: E, h => by
    rw [List.flatten_cons, List.length_append, h x List.mem_cons_self, flat_len E (fun y hy => h y (List.mem_cons_of_mem _ hy)), List.length_cons, Nat.add_mul]
    omega
theorem flat_inj {sz : Nat} (hs : 0 < sz) : ∀ (E F : List (List Value)), (∀ x ∈ E, x.length = sz) → (∀ x ∈ F, x.length = sz) → E.flatten = F.flatten → E = F
  | [], [], _, _, _ => rfl
  | [], y :: F, _, hF, e => by
    have := congrArg List.length e
    rw [List.flatten_cons, List.length_append, hF y List.mem_cons_self] at this
    simp at this
    omega
  | x :: E, [], hE, _, e => by
    have := congrArg List.length e
    rw [List.flatten_cons, List.length_append, hE x List.mem_cons_self] at this
    simp at this
    omega
  | x :: E, y :: F, hE, hF, e => by
    rw [List.flatten_cons, List.flatten_cons] at e
    have h1 := List.append_inj e (by rw [hE x List.mem_cons_self, hF y List.mem_cons_self])
    rw [h1.1, flat_inj hs E F (fun z hz => hE z (List.mem_cons_of_mem _ hz)) (fun z hz => hF z (List.mem_cons_of_mem _ hz)) h1.2]
theorem flat_take {sz : Nat} : ∀ (E : List (List Value)) (n : Nat), (∀ x ∈ E, x.length = sz) → (E.take n).flatten = E.flatten.take (n * sz)
  | [], n, _ => by simp
  | x :: E, 0, _ => by simp
  | x :: E, n + 1, h => by
    have e : (n + 1) * sz = x.length + n * sz := by rw [h x List.mem_cons_self, Nat.add_mul]; omega
    rw [List.take_succ_cons, List.flatten_cons, List.flatten_cons, flat_take E n (fun y hy => h y (List.mem_cons_of_mem _ hy)), e, List.take_length_add_append]
theorem flat_of {sz : Nat} : ∀ (c : Nat) (l : List Value), l.length = c * sz → ∃ E : List (List Value), E.length = c ∧ (∀ x ∈ E, x.length = sz) ∧ E.flatten = l
  | 0, l, h => ⟨[], rfl, by simp, by have : l = [] := List.length_eq_zero_iff.1 (by omega); rw [this]; rfl⟩
  | c + 1, l, h => by
    rw [Nat.add_mul] at h
    obtain ⟨E, h1, h2, h3⟩ := flat_of (sz := sz) c (l.drop sz) (by rw [List.length_drop]; omega)
    refine ⟨l.take sz :: E, by simp [h1], ?_, by rw [List.flatten_cons, h3, List.take_append_drop]⟩
    intro x hx
    rcases List.mem_cons.1 hx with rfl | hx
    · rw [List.length_take]
      omega
    · exact h2 x hx
/-- A block of elements of the type T, sz cells each. -/
def RowE (T : TypeId) (sz : Nat) (w : World) (b : Nat) (E : List (List Value)) : Prop := ∃ cur, w.heap[b]? = some (.cells cur T (0, 0)) ∧ cur.toList = E.flatten ∧ ∀ x ∈ E, x.length = sz
section
variable {T : TypeId} {sz : Nat} {w w' : World} {b : Nat} {E E' : List (List Value)}
theorem RowE.lt (h : RowE T sz w b E) : b < w.heap.size := by
  obtain ⟨_, h, _⟩ := h
  exact (Array.getElem?_eq_some_iff.1 h).1
theorem RowE.same (h : RowE T sz w b E) (hh : w'.heap[b]? = w.heap[b]?) : RowE T sz w' b E := by
  obtain ⟨cur, h1, h2⟩ := h
  exact ⟨cur, hh.trans h1, h2⟩
theorem RowE.kept (h : RowE T sz w b E) (hk : Kept w w') : RowE T sz w' b E := h.same (hk.2.2.2.2 b h.lt)
theorem RowE.one (hs : 0 < sz) (h : RowE T sz w b E) (h' : RowE T sz w b E') : E = E' := by
  obtain ⟨cur, h1, h2, h3⟩ := h
  obtain ⟨cur', g1, g2, g3⟩ := h'
  rw [h1] at g1
  injection g1 with g1
  injection g1 with g1 _ _
  subst g1
  exact flat_inj hs E E' h3 g3 (h2.symm.trans g2)
theorem RowE.cell (hs : 0 < sz) (h : RowE T sz w b E) {s j : Nat} {x : List Value} {u : Value} (hx : E[s]? = some x) (hu : x[j]? = some u) : w.cell? ⟨b, s * sz + j, none⟩ = some u := by
  obtain ⟨cur, h1, h2, h3⟩ := h
  have hxl := h3 x (List.mem_of_getElem? hx)
  have hj : j < sz := by have := (List.getElem?_eq_some_iff.1 hu).1; omega
  have e : cur.toList[s * sz + j]? = some u := by
    rw [h2, flat_get hs E h3, show (s * sz + j) / sz = s by rw [Nat.mul_comm, Nat.mul_add_div hs, Nat.div_eq_of_lt hj, Nat.add_zero], show (s * sz + j) % sz = j by rw [Nat.mul_comm, Nat.mul_add_mod, Nat.mod_eq_of_lt hj], hx]
    exact hu
  simp only [World.cell?, h1]
  simpa using e
theorem RowE.frozen (h : RowE T sz w b E) (o : Nat) : w.frozen? ⟨b, o, none⟩ = false := by
  obtain ⟨cur, h1, _⟩ := h
  simp [World.frozen?, h1]
theorem RowE.cellAt (hs : 0 < sz) (h : RowE T sz w b E) {s j : Nat} (hl : s < E.length) (hj : j < sz) : ∃ u, w.cell? ⟨b, s * sz + j, none⟩ = some u := by
  obtain ⟨x, hx⟩ : ∃ x, E[s]? = some x := ⟨_, List.getElem?_eq_getElem hl⟩
  obtain ⟨u, hu⟩ : ∃ u, x[j]? = some u := by
    obtain ⟨_, _, _, h3⟩ := h
    exact ⟨_, List.getElem?_eq_getElem (by rw [h3 x (List.mem_of_getElem? hx)]; exact hj)⟩
  exact ⟨u, h.cell hs hx hu⟩
/-- One element is written over. -/
theorem RowE.put (hs : 0 < sz) (h : RowE T sz w b E) {s : Nat} {x : List Value} (hx : x.length = sz) {cur cur' : Array Value} (h1 : w.heap[b]? = some (.cells cur T (0, 0))) (h2 : w'.heap[b]? = some (.cells cur' T (0, 0))) (hl : s < E.length) (hc : ∀ k, cur'[k]? = if s * sz ≤ k ∧ k < s * sz + sz then x[k - s * sz]? else cur[k]?) : RowE T sz w' b (E.set s x) := by
  obtain ⟨cu, g1, g2, g3⟩ := h
  rw [h1] at g1
  injection g1 with g1
  injection g1 with g1 _ _
  subst g1
  have hm : ∀ y ∈ E.set s x, y.length = sz := by
    intro y hy
    rcases List.mem_or_eq_of_mem_set hy with hy | rfl
    · exact g3 y hy
    · exact hx
  refine ⟨cur', h2, ?_, hm⟩
  refine List.ext_getElem? fun k => ?_
  rw [flat_get hs _ hm, Array.getElem?_toList, hc k]
  have hdm := Nat.div_add_mod k sz
  have hml := Nat.mod_lt k hs
  by_cases hks : k / sz = s
  · have e : s * sz + k % sz = k := by rw [← hks, Nat.mul_comm]; exact hdm
    rw [hks, List.getElem?_set_self hl, if_pos ⟨by omega, by omega⟩]
    show _ = x[k % sz]?
    congr 1
    omega
  · rw [List.getElem?_set_ne (fun e => hks e.symm), if_neg (fun hh => hks ?_), ← flat_get hs E g3, ← g2, Array.getElem?_toList]
    have h4 : k = sz * s + (k - s * sz) := by rw [Nat.mul_comm]; omega
    rw [h4, Nat.mul_add_div hs, Nat.div_eq_of_lt (by omega), Nat.add_zero]
theorem owns_rowE {base n cap : Nat} {xs : List Value} (h : w.ownsRow base T sz (.slice (some ⟨b, 0, none⟩) n cap) n xs) : ∃ E, RowE T sz w b E ∧ E.length = cap ∧ (E.take n).flatten = xs ∧ n ≤ cap ∧ base ≤ b ∧ cap ≤ maxLen := by
  rcases h.2 with ⟨h, _⟩ | ⟨g', c', cur, e, h1, h2, h3, h4, h5, h6⟩
  · cases h
  · simp only [Value.slice.injEq, Option.some.injEq, Addr.mk.injEq] at e
    obtain ⟨⟨rfl, _⟩, _, rfl⟩ := e
    obtain ⟨E, e1, e2, e3⟩ := flat_of (sz := sz) cap cur.toList (by simpa using h5)
    refine ⟨E, ⟨cur, h2, e3.symm, e2⟩, e1, ?_, h3, h1, h4⟩
    rw [flat_take E n e2, e3]
    exact h6
theorem rowE_owns {base n : Nat} (h : RowE T sz w b E) (hb : base ≤ b) (hn : n ≤ E.length) (hm : E.length ≤ maxLen) : w.ownsRow base T sz (.slice (some ⟨b, 0, none⟩) n E.length) n (E.take n).flatten := by
  obtain ⟨cur, h1, h2, h3⟩ := h
  have hcs : cur.size = E.length * sz := by
    have := congrArg List.length h2
    rw [flat_len E h3] at this
    simpa using this
  refine ⟨?_, .inr ⟨b, E.length, cur, rfl, hb, h1, hn, hm, hcs, ?_⟩⟩
  · rw [flat_len _ (fun x hx => h3 x (List.mem_of_mem_take hx)), List.length_take, Nat.min_eq_left hn]
  · rw [flat_take E n h3, h2]
end
set_option maxRecDepth 100000 in
/-- One element is appended, in place or anew. -/
theorem wpl_growE {T TT : TypeId} {sz by_ : Nat} {z : Value} (hs : 0 < sz) (hinfo : (Tryd.prog.info? T).map (fun i => (i.zero, i.size, i.bytes)) = some (some z, sz, by_)) (hzs : z.cells.size = sz) (hby : by_ ≤ 4096) (hund : Tryd.prog.underlying TT = some (.slice T)) {ops : Array Oper} {rest : List Oper} {o : Oper} {a : Act} {Q : Exit → Act → World → Prop} (hgd : o.guard = none) (s x : Operand)
    (ho : o.op = .call { callee := .builtin .append, args := #[s, x], argTypes := #[TT, TT] }) (W : World) (gb k cg : Nat) (E : List (List Value)) (hsv : a.eval s = .slice (some ⟨gb, 0, none⟩) k cg) (hrow : RowE T sz W gb E) (hl : E.length = cg) (hk : k ≤ cg) (hm : cg ≤ maxLen)
    (y : List Value) (hy : y.length = sz) (hy1 : ∀ u ∈ y, u.oneCell' = true) (lb : Nat) (hx : a.eval x = .slice (some ⟨lb, 0, none⟩) 1 1) (hc : ∀ (j : Nat) u, y[j]? = some u → W.cell? ⟨lb, j, none⟩ = some u) (hkb : k + 1 ≤ 2000000000)
    (h : ∀ gb' cg' E' w', RowE T sz w' gb' E' → E'.length = cg' → cg' ≤ maxLen → k + 1 ≤ cg' → E'.take (k + 1) = E.take k ++ [y] → ((gb' = gb ∧ cg' = cg ∧ W.grownBy w' (some gb)) ∨ (W.heap.size ≤ gb' ∧ gb' < w'.heap.size ∧ Kept W w')) → wpList Tryd.prog ops Q rest (a.put o.dst (.slice (some ⟨gb', 0, none⟩) (k + 1) cg')) w') : wpList Tryd.prog ops Q (o :: rest) a W := by
  obtain ⟨i0, hi, hz0, hz1, hz2⟩ := info_parts hinfo
  subst hl
  have hown := rowE_owns (base := 0) (n := k) hrow (Nat.zero_le _) hk hm
  have hE : ∀ x ∈ E, x.length = sz := by obtain ⟨_, _, _, h⟩ := hrow; exact h
  have hnews : ∀ (j : Nat) u, y[j]? = some u → W.cell? ((⟨lb, 0, none⟩ : Addr).add j) = some u := fun j u hu => by
    rw [Addr.add_mid, Nat.zero_add]
    exact hc j u hu
  have fin : ∀ (E' : List (List Value)), (∀ x ∈ E', x.length = sz) → (E'.take (k + 1)).flatten = (E.take k).flatten ++ y → E'.take (k + 1) = E.take k ++ [y] := fun E' hE' e => by
    refine flat_inj hs _ _ (fun x hx => hE' x (List.mem_of_mem_take hx)) (fun x hx => ?_) (by rw [e]; simp)
    rcases List.mem_append.1 hx with hx | hx
    · exact hE x (List.mem_of_mem_take hx)
    · rw [List.mem_singleton.1 hx]
      exact hy
  have htl : (E.take k).flatten.length = k * sz := by rw [flat_len _ (fun x hx => hE x (List.mem_of_mem_take hx)), List.length_take, Nat.min_eq_left hk]
  by_cases hroom : k + 1 ≤ E.length
  · refine wpList_append_fits W hgd s x TT ho 0 T i0 sz hund hi hz1 gb k E.length (E.take k).flatten hsv hown ⟨lb, 0, none⟩ 1 1 y hx (by omega) hnews hy1 hroom ?_
    intro w' ho' hg'
    obtain ⟨E', h1, h2, h3, h4, _⟩ := owns_rowE ho'
    exact h gb E.length E' w' h1 h2 hm h4 (fin E' (by obtain ⟨_, _, _, h⟩ := h1; exact h) h3) (.inl ⟨rfl, rfl, hg'⟩)
  · refine wpList_append_grows W hgd s x TT ho T i0 z sz by_ hund hi hz0 hz1 hz2 hzs hs (some ⟨gb, 0, none⟩) k E.length (E.take k).flatten hsv (by intro h; cases h) htl (fun b hb j u hu => ?_) ⟨lb, 0, none⟩ 1 1 y hx (by omega) hnews hy1 (by omega) (by unfold maxLen; omega) ?_ ?_
    · injection hb with hb
      subst hb
      rw [Addr.add_mid, Nat.zero_add]
      obtain ⟨cur, c1, c2, _⟩ := hrow
      have hj : j < k * sz := by have := (List.getElem?_eq_some_iff.1 hu).1; omega
      rw [flat_take E k hE, List.getElem?_take, if_pos hj, ← c2] at hu
      simp only [World.cell?, c1]
      simpa using hu
    · exact Nat.le_trans (Nat.mul_le_mul hkb hby) (by decide)
    · intro v' w' ho' hg'
      rcases ho'.2 with ⟨_, h0⟩ | ⟨g', c', cur, rfl, hge, h2, h3, h4, h5, h6⟩
      · omega
      · obtain ⟨E', e1, e2, e3, e4, _, e6⟩ := owns_rowE ho'
        exact h g' c' E' w' e1 e2 h4 h3 (fin E' (by obtain ⟨_, _, _, h⟩ := e1; exact h) e3) (.inr ⟨hge, e1.lt, ⟨hg'.os, hg'.tape, hg'.output, hg'.size, fun k hk => hg'.block k hk (by simp)⟩⟩)

theorem LO.type {α : Type} {E : ElK α} {w : World} {base : Nat} {v : Value} {l : List α} (h : LO E w base v l) {g : Nat} (hg : v.ownBlock = some g) : ∃ cur, w.heap[g]? = some (.cells cur E.T (0, 0)) := by
  rcases h.2 with ⟨rfl, _⟩ | ⟨g', cap, cur, rfl, _, h3, _⟩
  · cases hg
  · simp only [Value.ownBlock, Option.some.injEq] at hg
    subst hg
    exact ⟨cur, h3⟩
theorem LO.take {α : Type} {E : ElK α} {w : World} {base n c : Nat} {a : Option Addr} {l : List α} (h : LO E w base (.slice a n c) l) {k : Nat} (hk : k ≤ l.length) : LO E w base (.slice a k c) (l.take k) := by
  have hl : (l.take k).length = k := by rw [List.length_take]; omega
  have hfl : flatE E (l.take k) = (flatE E l).take (k * E.sz) := by
    have e : flatE E l = flatE E (l.take k) ++ flatE E (l.drop k) := by
      unfold flatE
      rw [← List.flatMap_append, List.take_append_drop]
    have e2 : (flatE E (l.take k)).length = k * E.sz := by rw [flatE_lenT, hl]
    rw [e, ← e2, List.take_left]
  unfold LO at h ⊢
  rw [hl]
  rcases h.2 with ⟨h0, h1⟩ | ⟨g, cap, cur, he, h2, h3, h4, h5, h6, h7⟩
  · have hk0 : k = 0 := by omega
    injection h0 with e1 e2 e3
    subst e1 e3 hk0
    refine ⟨?_, Or.inl ⟨rfl, rfl⟩⟩
    simp [flatE]
  · injection he with e1 e2 e3
    subst e1 e3
    refine ⟨by rw [hfl, List.length_take, flatE_lenT]; exact Nat.min_eq_left (Nat.mul_le_mul_right _ hk), Or.inr ⟨g, c, cur, rfl, h2, h3, by omega, h5, h6, ?_⟩⟩
    rw [hfl, ← h7, List.take_take, Nat.min_eq_left (Nat.mul_le_mul_right _ hk)]
theorem LO.cap {α : Type} {E : ElK α} {w : World} {base n cap : Nat} {a : Option Addr} {l : List α} (h : LO E w base (.slice a n cap) l) : l.length ≤ cap := by
  rcases h.2 with ⟨_, h0⟩ | ⟨g, cap', cur, he, _, _, h3, _⟩
  · omega
  · injection he with _ _ e3
    subst e3
    exact h3
theorem LO.some {α : Type} {E : ElK α} {w : World} {base n cap : Nat} {a : Option Addr} {l : List α} (h : LO E w base (.slice a n cap) l) (hl : l ≠ []) : ∃ g, a = some ⟨g, 0, none⟩ := by
  rcases h.2 with ⟨_, h0⟩ | ⟨g, cap', cur, he, _⟩
  · exact absurd (List.length_eq_zero_iff.1 h0) hl
  · injection he with e1
    exact ⟨g, e1⟩
theorem kcell {w : World} {a o : Nat} {v : Value} (h : w.cell? ⟨a, o, none⟩ = some v) : ∀ W, Kept w W → W.cell? ⟨a, o, none⟩ = some v := fun _ hk => grown_cell hk h

/-- Cells of a block are written, one behind the other. -/
def putL (w : World) (g : Nat) : Nat → List Value → World
  | _, [] => w
  | o, u :: us => putL (w.setCell ⟨g, o, none⟩ u) g (o + 1) us
theorem putL_kt (g : Nat) : ∀ (us : List Value) (w : World) (o : Nat), KT (fun k => k = g) w (putL w g o us)
  | [], w, _ => (Kept.refl w).kt _
  | u :: us, w, o => (set_kt w g o u).trans (putL_kt g us _ _)
theorem putL_at (g : Nat) (T : TypeId) : ∀ (us : List Value) (w : World) (o : Nat) (cur : Array Value), w.heap[g]? = some (.cells cur T (0, 0)) → o + us.length ≤ cur.size → ∃ cur', (putL w g o us).heap[g]? = some (.cells cur' T (0, 0)) ∧ ∀ k, cur'[k]? = if o ≤ k ∧ k < o + us.length then us[k - o]? else cur[k]?
  | [], w, o, cur, h, _ => ⟨cur, h, fun k => by rw [if_neg (by simp)]⟩
  | u :: us, w, o, cur, h, hs => by
    have hb := (Array.getElem?_eq_some_iff.1 h).1
    have he := Option.some.inj ((Array.getElem?_eq_getElem hb).symm.trans h)
    have h4 : (w.setCell ⟨g, o, none⟩ u).heap[g]? = some (.cells (cur.setIfInBounds o u) T (0, 0)) := by simp [World.setCell, Array.getElem_modify, hb, he]
    simp only [List.length_cons] at hs ⊢
    obtain ⟨cur', g1, g2⟩ := putL_at g T us (w.setCell ⟨g, o, none⟩ u) (o + 1) (cur.setIfInBounds o u) h4 (by simp; omega)
    refine ⟨cur', g1, fun k => ?_⟩
    rw [g2 k]
    by_cases hk : k = o
    · subst hk
      rw [if_neg (by omega), if_pos (by omega), Nat.sub_self]
      simp [show k < cur.size by omega]
    · by_cases hk2 : o ≤ k ∧ k < o + (us.length + 1)
      · rw [if_pos (by omega), if_pos hk2, show k - o = (k - (o + 1)) + 1 by omega, List.getElem?_cons_succ]
      · rw [if_neg (by omega), if_neg hk2, Array.getElem?_setIfInBounds_ne (fun e => hk e.symm)]
section
variable {α : Type} {E : ElK α}
theorem flatE_map (l : List α) : flatE E l = (l.map E.enc).flatten := by
  unfold flatE
  rw [List.flatMap_def]
theorem enc_lens (l : List α) : ∀ y ∈ l.map E.enc, y.length = E.sz := fun y hy => by
  obtain ⟨x, _, rfl⟩ := List.mem_map.1 hy
  exact E.len x
theorem lo_lens {w : World} {base n c : Nat} {a : Option Addr} {l : List α} (h : LO E w base (.slice a n c) l) : l.length = n := by
  obtain ⟨a', c', e⟩ := h.form
  injection e with _ e2 _
  exact e2.symm
/-- A list's block, as elements. -/
theorem lo_toRow {w : World} {base g n c : Nat} {l : List α} (h : LO E w base (.slice (some ⟨g, 0, none⟩) n c) l) : ∃ EE, RowE E.T E.sz w g EE ∧ EE.length = c ∧ EE.take n = l.map E.enc ∧ n ≤ c ∧ base ≤ g ∧ c ≤ maxLen := by
  have hn := lo_lens h
  subst hn
  obtain ⟨EE, r1, r2, r3, r4, r5, r6⟩ := owns_rowE h
  have hE : ∀ x ∈ EE, x.length = E.sz := by obtain ⟨_, _, _, h⟩ := r1; exact h
  refine ⟨EE, r1, r2, ?_, r4, r5, r6⟩
  exact flat_inj E.pos _ _ (fun x hx => hE x (List.mem_of_mem_take hx)) (enc_lens l) (r3.trans (flatE_map l))
theorem lo_rowE {w : World} {base g n : Nat} {l : List α} {EE : List (List Value)} (r1 : RowE E.T E.sz w g EE) (hb : base ≤ g) (hn : n ≤ EE.length) (hm : EE.length ≤ maxLen) (ht : EE.take n = l.map E.enc) : LO E w base (.slice (some ⟨g, 0, none⟩) n EE.length) l := by
  have hl : l.length = n := by
    have := congrArg List.length ht
    rw [List.length_take, List.length_map] at this
    omega
  have h := rowE_owns (base := base) (n := n) r1 hb hn hm
  rw [ht, ← flatE_map] at h
  unfold LO
  rw [hl]
  exact h
/-- An element is written over. -/
theorem lo_put {w : World} {base g n c k : Nat} {l : List α} (h : LO E w base (.slice (some ⟨g, 0, none⟩) n c) l) (hk : k < n) (x : α) : LO E (putL w g (k * E.sz) (E.enc x)) base (.slice (some ⟨g, 0, none⟩) n c) (l.set k x) := by
  obtain ⟨EE, r1, r2, r3, r4, r5, r6⟩ := lo_toRow h
  have r1' := r1
  obtain ⟨cur, c1, c2, c3⟩ := r1
  have hcs : cur.size = EE.length * E.sz := by
    have := congrArg List.length c2
    rw [flat_len EE c3] at this
    simpa using this
  have hkc : k * E.sz + E.sz ≤ cur.size := by
    rw [hcs, r2]
    have h9 := Nat.mul_le_mul_right E.sz (show k + 1 ≤ c by omega)
    rw [Nat.add_mul, Nat.one_mul] at h9
    exact h9
  obtain ⟨cur', d1, d2⟩ := putL_at g E.T (E.enc x) w (k * E.sz) cur c1 (by rw [E.len]; exact hkc)
  rw [E.len] at d2
  have hp := RowE.put E.pos r1' (E.len x) c1 d1 (by omega : k < EE.length) d2
  have hl2 : (EE.set k (E.enc x)).length = c := by rw [List.length_set, r2]
  have := lo_rowE (l := l.set k x) hp r5 (n := n) (by rw [hl2]; exact r4) (by rw [hl2]; exact r6) (by
    rw [List.take_set, r3, List.map_set])
  rw [hl2] at this
  exact this
theorem lo_set0 {w : World} {base g n c k : Nat} {l : List α} (h : LO E w base (.slice (some ⟨g, 0, none⟩) n c) l) (hk : k < n) (j : Nat) (hj : j < E.sz) : (∃ u, w.cell? ⟨g, k * E.sz + j, none⟩ = some u) ∧ w.frozen? ⟨g, k * E.sz + j, none⟩ = false := by
  obtain ⟨EE, r1, r2, r3, r4, r5, r6⟩ := lo_toRow h
  exact ⟨r1.cellAt E.pos (by omega) hj, r1.frozen _⟩
/-- What an append of one element may have done: in place, or anew. -/
def App2 (w w' : World) (v : Value) (m g cap : Nat) : Prop := (v = .slice (some ⟨g, 0, none⟩) m cap ∧ w.grownBy w' (some g)) ∨ (w.heap.size ≤ g ∧ Kept w w')
theorem wpl_lo2 {w : World} {ops : Array Oper} {rest : List Oper} {o : Oper} {a : Act} {Q : Exit → Act → World → Prop} (hby : E.by_ ≤ 4096) (hgd : o.guard = none) (s x : Operand) (ho : o.op = .call { callee := .builtin .append, args := #[s, x], argTypes := #[E.TT, E.TT] }) (base : Nat) (v : Value) (l : List α) (m : Nat) (hm : l.length = m) (hs : a.eval s = v) (hown : LO E w base v l) (lb : Nat) (q : α) (hx : a.eval x = .slice (some ⟨lb, 0, none⟩) 1 1) (hbx : w.heap[lb]? = some (.cells (E.enc q).toArray E.T (0, 0))) (hl : m + 1 ≤ 2000000000) (hbase : base ≤ w.heap.size)
    (h : ∀ g cap w', LO E w' base (.slice (some ⟨g, 0, none⟩) (m + 1) cap) (l ++ [q]) → App2 w w' v m g cap → g < w'.heap.size → wpList Tryd.prog ops Q rest (a.put o.dst (.slice (some ⟨g, 0, none⟩) (m + 1) cap)) w') : wpList Tryd.prog ops Q (o :: rest) a w := by
  have hlb : (m + 1) * E.by_ ≤ 140737488355328 := Nat.le_trans (Nat.mul_le_mul hl hby) (by decide)
  rcases hown.2 with ⟨h0, h1⟩ | ⟨g, cap, cur, he, _⟩
  · subst h0
    refine wpl_lo hgd s x ho base _ l m hm hs hown lb q hx hbx hlb (by unfold maxLen; omega) hbase ?_
    intro g cap w' ho' hg' hor hlt
    refine h g cap w' ho' (Or.inr ⟨?_, ⟨hg'.os, hg'.tape, hg'.output, hg'.size, fun k hk => hg'.block k hk (by intro e; cases e)⟩⟩) hlt
    rcases hor with e | e
    · cases e
    · omega
  · subst hm
    subst he
    obtain ⟨EE, r1, r2, r3, r4, r5, r6⟩ := lo_toRow hown
    refine wpl_growE E.pos E.info E.zs hby E.und hgd s x ho w g l.length cap EE hs r1 r2 r4 r6 (E.enc q) (E.len q) (E.one q) lb hx (fun j u hu => ?_) hl ?_
    · simp only [World.cell?, hbx]
      simpa using hu
    · intro gb' cg' E' w' q1 q2 q3 q4 q5 q6
      have ht : E'.take (l.length + 1) = (l ++ [q]).map E.enc := by rw [q5, r3, List.map_append]; rfl
      subst q2
      have hb' : base ≤ gb' := by
        rcases q6 with ⟨e, _⟩ | ⟨e, _⟩
        · rw [e]; exact r5
        · omega
      refine h gb' E'.length w' (lo_rowE q1 hb' q4 q3 ht) ?_ q1.lt
      rcases q6 with ⟨e1, e2, e3⟩ | ⟨e1, _, e3⟩
      · left
        rw [e1]
        rw [e2]
        exact ⟨rfl, e3⟩
      · exact Or.inr ⟨e1, e3⟩
end
/-- A list, as a value: where it lies, its length, its room. -/
abbrev SlV : Type := Option Addr × Nat × Nat
def val (x : SlV) : Value := .slice x.1 x.2.1 x.2.2
def encSl (x : SlV) : List Value := [.slice x.1 x.2.1 x.2.2]
theorem encSl_one (x : SlV) : ∀ u ∈ encSl x, u.oneCell' = true := fun u hu => by
  unfold encSl at hu
  simp only [List.mem_cons, List.not_mem_nil, or_false] at hu
  subst hu
  rfl
/-- Lists of lists. -/
def encBo (b : Bool) : List Value := [.bool b]
theorem encBo_one (x : Bool) : ∀ u ∈ encBo x, u.oneCell' = true := fun u hu => by
  unfold encBo at hu
  simp only [List.mem_cons, List.not_mem_nil, or_false] at hu
  subst hu
  rfl
def boE : ElK Bool := { T := 4, TT := 27, sz := 1, by_ := 1, z := .bool false, enc := encBo, pos := by decide, info := by kernel_rfl, zs := rfl, und := Tryd.underlying27, len := fun _ => rfl, one := encBo_one }
def slE : ElK SlV := { T := 41, TT := 28, sz := 1, by_ := 24, z := .slice none 0 0, enc := encSl, pos := by decide, info := by kernel_rfl, zs := rfl, und := Tryd.underlying28, len := fun _ => rfl, one := encSl_one }
def llE : ElK SlV := { T := 28, TT := 35, sz := 1, by_ := 24, z := .slice none 0 0, enc := encSl, pos := by decide, info := by kernel_rfl, zs := rfl, und := Tryd.underlying35, len := fun _ => rfl, one := encSl_one }
def blE : ElK SlV := { T := 27, TT := 36, sz := 1, by_ := 24, z := .slice none 0 0, enc := encSl, pos := by decide, info := by kernel_rfl, zs := rfl, und := Tryd.underlying36, len := fun _ => rfl, one := encSl_one }
section
variable {α : Type} {E : ElK α} {L : ElK SlV}
def BagL (E : ElK α) (w : World) (vs : List SlV) (C : Nat → List α) : Prop := ∀ u x, vs[u]? = some x → LO E w 0 (val x) (C u)
def LoneS (vs : List SlV) : Prop := ∀ (u u' : Nat) (x x' : SlV) (d : Nat), vs[u]? = some x → vs[u']? = some x' → (val x).ownBlock = some d → (val x').ownBlock = some d → u = u'
def InB (vs : List SlV) (k : Nat) : Prop := ∃ (u : Nat) (x : SlV), vs[u]? = some x ∧ (val x).ownBlock = some k
def Mrk (mrk : Nat → Nat → α) (vs : List SlV) (C : Nat → List α) (i k : Nat) : Prop := ∀ (u : Nat) (x : SlV) (s : Nat), vs[u]? = some x → s < x.2.1 → (u < i ∨ u = i ∧ s < k) → (C u)[s]? = some (mrk u s)
def updF (C : Nat → List α) (i : Nat) (l : List α) : Nat → List α := fun u => if u = i then l else C u
theorem updF_same (C : Nat → List α) (i : Nat) (l : List α) : updF C i l i = l := if_pos rfl
theorem updF_other {C : Nat → List α} {i u : Nat} {l : List α} (h : u ≠ i) : updF C i l u = C u := if_neg h
theorem KT.wide {S S' : Nat → Prop} {u v w : World} (h : KT S u v) (k : KT S' v w) (hs : ∀ d, d < u.heap.size → S' d → S d) : KT S u w := ⟨k.1.trans h.1, k.2.1.trans h.2.1, k.2.2.1.trans h.2.2.1, Nat.le_trans h.2.2.2.1 k.2.2.2.1, fun d hd h1 => (k.2.2.2.2 d (Nat.lt_of_lt_of_le hd h.2.2.2.1) (fun e => h1 (hs d hd e))).trans (h.2.2.2.2 d hd h1)⟩
theorem grown_kt {w w' : World} {g : Nat} (h : w.grownBy w' (some g)) : KT (fun k => k = g) w w' := ⟨h.os, h.tape, h.output, h.size, fun k hk hn => h.block k hk (fun e => hn (by injection e))⟩
theorem BagL.kept {w w' : World} {vs : List SlV} {C : Nat → List α} (h : BagL E w vs C) (hk : Kept w w') : BagL E w' vs C := fun u x hx => (h u x hx).keep hk
/-- An element of one of the lists is written over. -/
theorem BagL.put {w : World} {vs : List SlV} {C : Nat → List α} (h : BagL E w vs C) (hl : LoneS vs) {i k g n c : Nat} (hi : vs[i]? = some (some ⟨g, 0, none⟩, n, c)) (hk : k < n) (x : α) : BagL E (putL w g (k * E.sz) (E.enc x)) vs (updF C i ((C i).set k x)) := by
  intro u y hy
  by_cases hu : u = i
  · subst hu
    rw [hi] at hy
    have := Option.some.inj hy
    subst this
    rw [updF_same]
    exact lo_put (h u _ hi) hk x
  · rw [updF_other hu]
    refine (h u y hy).same (fun d hd => (putL_kt g _ _ _).2.2.2.2 d ((h u y hy).lt' d hd).2 (fun e => hu ?_))
    exact hl u i y _ d hy hi hd (by rw [e]; rfl)
theorem Mrk.put {mrk : Nat → Nat → α} {vs : List SlV} {C : Nat → List α} {i k : Nat} (h : Mrk mrk vs C i k) {x : SlV} (hi : vs[i]? = some x) (hk : k < (C i).length) : Mrk mrk vs (updF C i ((C i).set k (mrk i k))) i (k + 1) := by
  intro u y s hy hs hc
  by_cases hu : u = i
  · subst hu
    rw [updF_same]
    by_cases hsk : s = k
    · subst hsk
      rw [List.getElem?_set_self hk]
    · rw [List.getElem?_set_ne (fun e => hsk e.symm)]
      exact h u y s hy hs (by omega)
  · rw [updF_other hu]
    exact h u y s hy hs (by omega)
theorem Mrk.next {mrk : Nat → Nat → α} {vs : List SlV} {C : Nat → List α} {i n : Nat} (h : Mrk mrk vs C i n) (hn : ∀ x, vs[i]? = some x → x.2.1 = n) : Mrk mrk vs C (i + 1) 0 := by
  intro u x s hx hs hc
  by_cases hu : u = i
  · subst hu
    exact h u x s hx hs (Or.inr ⟨rfl, by rw [← hn x hx]; exact hs⟩)
  · exact h u x s hx hs (by omega)
/-- While lists are grown: xs: those that are grown. -/
structure Gr2 (E : ElK α) (L : ElK SlV) (mrk ap : Nat → Nat → α) (vs : List SlV) (w0 w : World) (gv : Value) (xs : List SlV) (C D : Nat → List α) : Prop where
  bag : BagL E w vs C
  mr : Mrk mrk vs C vs.length 0
  kb : KT (InB vs) w0 w
  gl : LO L w w0.heap.size gv xs
  bag2 : BagL E w xs D
  dd : ∀ (v : Nat) (x y : SlV), xs[v]? = some x → vs[v]? = some y → x.2.1 = y.2.1 + 70 ∧ (∀ s, s < y.2.1 → (D v)[s]? = some (mrk v s)) ∧ ∀ s, s < 70 → (D v)[y.2.1 + s]? = some (ap v s)
  own : ∀ (v : Nat) (x y : SlV) (d : Nat), xs[v]? = some x → vs[v]? = some y → (val x).ownBlock = some d → (val y).ownBlock = some d ∨ w0.heap.size ≤ d
  lone2 : LoneS xs
/-- The list that is growing. -/
structure Cu (E : ElK α) (mrk ap : Nat → Nat → α) (w0 w : World) (xs : List SlV) (u j : Nat) (y x : SlV) (G : List α) : Prop where
  lo : LO E w 0 (val x) G
  n : x.2.1 = y.2.1 + j
  g1 : ∀ s, s < y.2.1 → G[s]? = some (mrk u s)
  g2 : ∀ s, s < j → G[y.2.1 + s]? = some (ap u s)
  own : (x.1 = y.1 ∧ x.2.2 = y.2.2) ∨ ∃ g, x.1 = some ⟨g, 0, none⟩ ∧ w0.heap.size ≤ g ∧ ∀ (v : Nat) (x' : SlV), xs[v]? = some x' → (val x').ownBlock ≠ some g
theorem Gr2.kept {mrk ap : Nat → Nat → α} {vs xs : List SlV} {w0 w w' : World} {gv : Value} {C D : Nat → List α} (h : Gr2 E L mrk ap vs w0 w gv xs C D) (hk : Kept w w') : Gr2 E L mrk ap vs w0 w' gv xs C D := ⟨h.bag.kept hk, h.mr, h.kb.trans (hk.kt _), h.gl.keep hk, h.bag2.kept hk, h.dd, h.own, h.lone2⟩
theorem lo_ne {β : Type} {E' : ElK β} {w : World} {b1 b2 : Nat} {v1 v2 : Value} {l1 : List α} {l2 : List β} (h1 : LO E w b1 v1 l1) (h2 : LO E' w b2 v2 l2) (hT : E.T ≠ E'.T) {d : Nat} (hd : v1.ownBlock = some d) : v2.ownBlock ≠ some d := fun e => by
  obtain ⟨c1, g1⟩ := h1.type hd
  obtain ⟨c2, g2⟩ := h2.type e
  rw [g1] at g2
  injection g2 with g2
  injection g2 with _ g2 _
  exact hT g2
theorem val_some {x : SlV} {d : Nat} {w : World} {b : Nat} {l : List α} (h : LO E w b (val x) l) (hd : (val x).ownBlock = some d) : x.1 = some ⟨d, 0, none⟩ := by
  obtain ⟨a, n, c⟩ := x
  rcases h.2 with ⟨h0, _⟩ | ⟨g, cap, cur, he, _⟩
  · unfold val at h0 hd
    rw [h0] at hd
    cases hd
  · unfold val at he hd
    rw [he] at hd
    simp only [Value.ownBlock, Option.some.injEq] at hd
    injection he with e1 _ _
    subst hd
    exact e1
theorem own_eq (a : Option Addr) (n c n' c' : Nat) : (Value.slice a n c).ownBlock = (Value.slice a n' c').ownBlock := by cases a <;> rfl
/-- One element more. -/
theorem gr_step {mrk ap : Nat → Nat → α} {vs xs : List SlV} {w0 w W w' : World} {gv : Value} {C D : Nat → List α} {u j g cap : Nat} {y x : SlV} {G : List α} (hT : E.T ≠ L.T) (h : Gr2 E L mrk ap vs w0 w gv xs C D) (hc : Cu E mrk ap w0 w xs u j y x G) (hy : vs[u]? = some y) (hu : xs.length = u) (hl : LoneS vs) (hold : ∀ (v : Nat) (z : SlV) (d : Nat), vs[v]? = some z → (val z).ownBlock = some d → d < w0.heap.size) (hk : Kept w W)
    (ho : LO E w' 0 (.slice (some ⟨g, 0, none⟩) (y.2.1 + j + 1) cap) (G ++ [ap u j])) (ha : App2 W w' (val x) (y.2.1 + j) g cap) (hg : g < w'.heap.size) :
    ∃ C', Gr2 E L mrk ap vs w0 w' gv xs C' D ∧ Cu E mrk ap w0 w' xs u (j + 1) y (some ⟨g, 0, none⟩, y.2.1 + j + 1, cap) (G ++ [ap u j]) := by
  have hGl : G.length = y.2.1 + j := by
    have h1 := lo_lens (show LO E w 0 (.slice x.1 x.2.1 x.2.2) G from hc.lo)
    rw [h1]
    exact hc.n
  have n1 : ∀ s, s < y.2.1 → (G ++ [ap u j])[s]? = some (mrk u s) := fun s hs => by rw [List.getElem?_append_left (by omega)]; exact hc.g1 s hs
  have n2 : ∀ s, s < j + 1 → (G ++ [ap u j])[y.2.1 + s]? = some (ap u s) := fun s hs => by
    by_cases e : s = j
    · subst e
      rw [List.getElem?_append_right (by omega), hGl, Nat.sub_self]
      rfl
    · rw [List.getElem?_append_left (by omega)]
      exact hc.g2 s (by omega)
  have hW := h.kept hk
  have hsz := hW.kb.2.2.2.1
  rcases ha with ⟨e1, e2⟩ | ⟨e1, e2⟩
  · have hkt := grown_kt e2
    have hxo : (val x).ownBlock = some g := by rw [e1]; rfl
    have hxg : LO E W 0 (val x) G := hc.lo.keep hk
    have hgl : ∀ d, gv.ownBlock = some d → d ≠ g := fun d hd e => lo_ne hxg hW.gl hT hxo (by rw [hd, e])
    rcases hc.own with ⟨o1, o2⟩ | ⟨g9, o1, o2, o3⟩
    · have hyo : (val y).ownBlock = some g := by
        unfold val at hxo ⊢
        rw [← o1]
        exact (own_eq _ _ _ _ _).trans hxo
      have hgw : g < w0.heap.size := hold u y g hy hyo
      have hcap : cap = y.2.2 := by
        unfold val at e1
        injection e1 with _ _ e3
        rw [← o2, e3]
      refine ⟨updF C u ((G ++ [ap u j]).take y.2.1), ⟨?_, ?_, h.kb.trans ((hk.kt _).trans (hkt.mono (fun k e => by rw [e]; exact ⟨u, y, hy, hyo⟩))), hW.gl.same (fun d hd => hkt.2.2.2.2 d (hW.gl.lt' d hd).2 (hgl d hd)), ?_, h.dd, h.own, h.lone2⟩, ⟨ho, by show _ + 1 = _ + (j + 1); omega, n1, n2, Or.inl ⟨(val_some (h.bag u y hy) hyo).symm, hcap⟩⟩⟩
      · intro v z hz
        by_cases hv : v = u
        · subst hv
          rw [hy] at hz
          have := Option.some.inj hz
          subst this
          rw [updF_same]
          have ht := ho.take (k := y.2.1) (by rw [List.length_append, hGl]; simp; omega)
          have ey : val y = .slice (some ⟨g, 0, none⟩) y.2.1 cap := by
            unfold val
            rw [val_some (h.bag v y hy) hyo, hcap]
          rw [ey]
          exact ht
        · rw [updF_other hv]
          refine (hW.bag v z hz).same (fun d hd => hkt.2.2.2.2 d ((hW.bag v z hz).lt' d hd).2 (fun e => hv ?_))
          exact hl v u z y d hz hy hd (by rw [e]; exact hyo)
      · intro v z s hz hs hcnd
        by_cases hv : v = u
        · subst hv
          rw [hy] at hz
          have := Option.some.inj hz
          subst this
          rw [updF_same, List.getElem?_take, if_pos hs]
          exact n1 s hs
        · rw [updF_other hv]
          exact h.mr v z s hz hs hcnd
      · intro v z hz
        refine (hW.bag2 v z hz).same (fun d hd => hkt.2.2.2.2 d ((hW.bag2 v z hz).lt' d hd).2 (fun e => ?_))
        have hvl : v < u := by rw [← hu]; exact (List.getElem?_eq_some_iff.1 hz).1
        obtain ⟨zy, hzy⟩ : ∃ q, vs[v]? = some q := ⟨_, List.getElem?_eq_getElem (by have := (List.getElem?_eq_some_iff.1 hy).1; omega)⟩
        rcases h.own v z zy d hz hzy hd with q | q
        · have := hl v u zy y d hzy hy q (by rw [e]; exact hyo)
          omega
        · omega
    · have hg9 : g9 = g := by
        unfold val at hxo
        rw [o1] at hxo
        simp only [Value.ownBlock, Option.some.injEq] at hxo
        exact hxo
      subst hg9
      refine ⟨C, ⟨?_, h.mr, ?_, hW.gl.same (fun d hd => hkt.2.2.2.2 d (hW.gl.lt' d hd).2 (hgl d hd)), ?_, h.dd, h.own, h.lone2⟩, ⟨ho, by show _ + 1 = _ + (j + 1); omega, n1, n2, Or.inr ⟨g9, rfl, o2, o3⟩⟩⟩
      · intro v z hz
        refine (hW.bag v z hz).same (fun d hd => hkt.2.2.2.2 d ((hW.bag v z hz).lt' d hd).2 (fun e => ?_))
        have := hold v z d hz hd
        omega
      · exact KT.wide (h.kb.trans (hk.kt _)) hkt (fun d hd e => by omega)
      · intro v z hz
        refine (hW.bag2 v z hz).same (fun d hd => hkt.2.2.2.2 d ((hW.bag2 v z hz).lt' d hd).2 (fun e => ?_))
        exact o3 v z hz (by rw [hd, e])
  · have hkk := gtrans hk e2
    have h0 := h.kb.2.2.2.1
    have h1 := hk.size
    refine ⟨C, h.kept hkk, ⟨ho, by show _ + 1 = _ + (j + 1); omega, n1, n2, Or.inr ⟨g, rfl, by omega, fun v z hz e => ?_⟩⟩⟩
    have := ((h.bag2 v z hz).lt' g e).2
    omega
/-- A list that is grown is put to the others. -/
theorem gr_push {mrk ap : Nat → Nat → α} {vs xs : List SlV} {w0 w W w' : World} {gv gv' : Value} {C D : Nat → List α} {u : Nat} {y x : SlV} {G : List α} (hT : E.T ≠ L.T) (h : Gr2 E L mrk ap vs w0 w gv xs C D) (hc : Cu E mrk ap w0 w xs u 70 y x G) (hy : vs[u]? = some y) (hu : xs.length = u) (hl : LoneS vs) (hold : ∀ (v : Nat) (z : SlV) (d : Nat), vs[v]? = some z → (val z).ownBlock = some d → d < w0.heap.size) (hk : Kept w W)
    (ho : LO L w' w0.heap.size gv' (xs ++ [x])) (hg : W.grownBy w' gv.ownBlock) : Gr2 E L mrk ap vs w0 w' gv' (xs ++ [x]) C (updF D u G) := by
  have hW := h.kept hk
  have hkt : KT (fun k => gv.ownBlock = some k) W w' := ⟨hg.os, hg.tape, hg.output, hg.size, fun k hk hn => hg.block k hk (fun e => hn e.symm)⟩
  have key : ∀ (z : SlV) (l : List α), LO E W 0 (val z) l → LO E w' 0 (val z) l := fun z l hz => hz.same (fun d hd => hkt.2.2.2.2 d (hz.lt' d hd).2 (fun e => lo_ne hz hW.gl hT hd e))
  have hcW : LO E W 0 (val x) G := hc.lo.keep hk
  have hsn : ∀ (v : Nat) (z : SlV), (xs ++ [x])[v]? = some z → (v < u ∧ xs[v]? = some z) ∨ (v = u ∧ z = x) := fun v z hz => by
    by_cases hv : v < u
    · rw [List.getElem?_append_left (by omega)] at hz
      exact Or.inl ⟨hv, hz⟩
    · rw [List.getElem?_append_right (by omega), hu] at hz
      have h1 : v - u < 1 := by have := (List.getElem?_eq_some_iff.1 hz).1; simpa using this
      have h2 : v - u = 0 := by omega
      rw [h2] at hz
      exact Or.inr ⟨by omega, by simpa using hz.symm⟩
  have hxo : ∀ d, (val x).ownBlock = some d → (val y).ownBlock = some d ∨ w0.heap.size ≤ d := fun d hd => by
    rcases hc.own with ⟨o1, o2⟩ | ⟨g9, o1, o2, o3⟩
    · left
      unfold val at hd ⊢
      rw [← o1]
      exact (own_eq _ _ _ _ _).trans hd
    · right
      have := val_some hc.lo hd
      rw [o1] at this
      injection this with this
      injection this with this
      omega
  have hne : ∀ (v : Nat) (z : SlV) (d : Nat), xs[v]? = some z → (val z).ownBlock = some d → (val x).ownBlock ≠ some d := fun v z d hz hd e => by
    have hvl : v < u := by rw [← hu]; exact (List.getElem?_eq_some_iff.1 hz).1
    obtain ⟨zy, hzy⟩ : ∃ q, vs[v]? = some q := ⟨_, List.getElem?_eq_getElem (by have := (List.getElem?_eq_some_iff.1 hy).1; omega)⟩
    rcases hc.own with ⟨o1, o2⟩ | ⟨g9, o1, o2, o3⟩
    · have hyd : (val y).ownBlock = some d := by
        unfold val at e ⊢
        rw [← o1]
        exact (own_eq _ _ _ _ _).trans e
      rcases h.own v z zy d hz hzy hd with q | q
      · have := hl v u zy y d hzy hy q hyd
        omega
      · have := hold u y d hy hyd
        omega
    · have h9 := val_some hc.lo e
      rw [o1] at h9
      injection h9 with h9
      injection h9 with h9
      exact o3 v z hz (by rw [hd, h9])
  refine ⟨fun v z hz => key z _ (hW.bag v z hz), h.mr, KT.wide hW.kb hkt (fun d hd e => by have := (hW.gl.lt' d e).1; omega), ho, fun v z hz => ?_, fun v z zy hz hzy => ?_, fun v z zy d hz hzy hd => ?_, fun v v' z z' d hz hz' hd hd' => ?_⟩
  · rcases hsn v z hz with ⟨hv, hz⟩ | ⟨rfl, rfl⟩
    · rw [updF_other (by omega)]
      exact key z _ (hW.bag2 v z hz)
    · rw [updF_same]
      exact key _ _ hcW
  · rcases hsn v z hz with ⟨hv, hz⟩ | ⟨rfl, rfl⟩
    · rw [updF_other (by omega)]
      exact h.dd v z zy hz hzy
    · rw [hy] at hzy
      have := Option.some.inj hzy
      subst this
      rw [updF_same]
      exact ⟨hc.n, hc.g1, hc.g2⟩
  · rcases hsn v z hz with ⟨hv, hz⟩ | ⟨rfl, rfl⟩
    · exact h.own v z zy d hz hzy hd
    · rw [hy] at hzy
      have := Option.some.inj hzy
      subst this
      exact hxo d hd
  · rcases hsn v z hz with ⟨hv, hz1⟩ | ⟨hv, hz1⟩
    · rcases hsn v' z' hz' with ⟨hv', hz2⟩ | ⟨hv', hz2⟩
      · exact h.lone2 v v' z z' d hz1 hz2 hd hd'
      · exact absurd (by rw [← hz2]; exact hd') (hne v z d hz1 hd)
    · rcases hsn v' z' hz' with ⟨hv', hz2⟩ | ⟨hv', hz2⟩
      · exact absurd (by rw [← hz1]; exact hd) (hne v' z' d hz2 hd')
      · omega
/-- What is read at the end. -/
theorem gr_read3 {mrk ap : Nat → Nat → α} {vs xs : List SlV} {w0 w : World} {gv : Value} {C D : Nat → List α} (h : Gr2 E L mrk ap vs w0 w gv xs C D) {v : Nat} {y x : SlV} (hy : vs[v]? = some y) (hx : xs[v]? = some x) :
    x.2.1 = y.2.1 + 70 ∧ (∀ s, s < y.2.1 → ∃ g g2, y.1 = some ⟨g, 0, none⟩ ∧ x.1 = some ⟨g2, 0, none⟩ ∧ ∀ j q, (E.enc (mrk v s))[j]? = some q → w.cell? ⟨g, s * E.sz + j, none⟩ = some q ∧ w.cell? ⟨g2, s * E.sz + j, none⟩ = some q) ∧ ∀ s, s < 70 → ∃ g2, x.1 = some ⟨g2, 0, none⟩ ∧ ∀ j q, (E.enc (ap v s))[j]? = some q → w.cell? ⟨g2, (y.2.1 + s) * E.sz + j, none⟩ = some q := by
  obtain ⟨d1, d2, d3⟩ := h.dd v x y hx hy
  have hvl : v < vs.length := (List.getElem?_eq_some_iff.1 hy).1
  have b1 := h.bag v y hy
  have b2 := h.bag2 v x hx
  obtain ⟨ya, yn, yc⟩ := y
  obtain ⟨xa, xn, xc⟩ := x
  unfold val at b1 b2
  dsimp only at d1 d2 d3 b1 b2 ⊢
  refine ⟨d1, fun s hs => ?_, fun s hs => ?_⟩
  · have m1 := h.mr v (ya, yn, yc) s hy hs (Or.inl hvl)
    have m2 := d2 s hs
    obtain ⟨g, rfl⟩ := b1.some (by intro e; rw [e] at m1; simp at m1)
    obtain ⟨g2, rfl⟩ := b2.some (by intro e; rw [e] at m2; simp at m2)
    exact ⟨g, g2, rfl, rfl, fun j q hq => ⟨b1.cell m1 hq, b2.cell m2 hq⟩⟩
  · have m2 := d3 s hs
    obtain ⟨g2, rfl⟩ := b2.some (by intro e; rw [e] at m2; simp at m2)
    exact ⟨g2, rfl, fun j q hq => b2.cell m2 hq⟩
theorem lo_sl {w : World} {base : Nat} {a : Option Addr} {n c : Nat} {l : List SlV} (h : LO L w base (.slice a n c) l) (hs : L.sz = 1) (he : L.enc = encSl) {k : Nat} {x : SlV} (hx : l[k]? = some x) : ∃ g, a = some ⟨g, 0, none⟩ ∧ w.cell? ⟨g, k, none⟩ = some (.slice x.1 x.2.1 x.2.2) := by
  obtain ⟨g, rfl⟩ := h.some (by intro e; rw [e] at hx; simp at hx)
  have h1 := h.cell (i := k) (j := 0) (x := x) (u := .slice x.1 x.2.1 x.2.2) hx (by rw [he]; rfl)
  rw [hs, Nat.mul_one, Nat.add_zero] at h1
  exact ⟨g, rfl, h1⟩
end

end Sh
end Ex
end Go.Proofs.YtooelfjceehmmaaDoor
