import Derived.Test.YtfajoknacfjedaaGreatDoorMExLy9
import Derived.Test.YtfajoknacfjedaaGreatDoorMExNn2
namespace Go.Proofs.YtfajoknacfjedaaGreatDoor
open Go.RowKit
attribute [local go_sem] Oper.semAt_some
namespace Ex

def Bk0 (X : Nat → Prop) (J : List Unit → World → Prop) (W : World) (vi : Value) (wr : World) : Prop := vi = .int .i64 (-1) ∧ J [] wr ∧ XK X W wr
set_option linter.unusedSimpArgs false in
set_option maxRecDepth 100000 in
set_option maxHeartbeats 2000000 in
/-- slices.Backward's closure over nothing. -/
theorem back_in0 (n : Nat) (X : Nat → Prop) (l Bs cap : Nat) (a : Option Addr) (hXb : X Bs) (J : List Unit → World → Prop) (W : World) (hBs : W.cell? ⟨Bs, 0, none⟩ = some (.slice a 0 cap)) (h0 : J [] W) :
    CallsIn Fence.wide n Tryz.prog 99 #[.func (.yield l) #[] #[], .pointer (some ⟨Bs, 0, none⟩)] W fun e W' => (∃ v, e = .returned v) ∧ J [] W' := by
  have HXB := hide1 hXb
  have H0 := hide1 h0
  clear hXb h0
  refine callsIn_of_wp Tryz.func99 rfl trivial ?_ rfl
  simp only [Tryz.ntmps99, List.size_toArray, List.length_cons, List.length_nil, Nat.reduceAdd, Nat.reduceSub, Array.replicate_succ, Array.replicate_zero, List.push_toArray, List.append_toArray, List.nil_append, List.cons_append]
  gi_wp2
  gi_loopw [3] (fun vi wr => Bk0 X J W vi wr) (fun vi _ => (intOf vi + 1).toNat)
  case atStart => exact ⟨rfl, H0.out, Nat.le_refl _, fun _ _ => rfl⟩
  case round =>
    obtain ⟨rfl, hJs, hx⟩ := hrel
    have HJS := hide1 hJs
    have hb := hx.cell HXB.out hBs
    clear hJs hx
    gi_wp2
    go_end0
    exact ⟨⟨_, rfl⟩, HJS.out⟩
theorem back_seq0 (n : Nat) (X : Nat → Prop) (Bs cap : Nat) (a : Option Addr) (hXb : X Bs) (w : World) (hBs : w.cell? ⟨Bs, 0, none⟩ = some (.slice a 0 cap)) :
    SeqC Fence.wide n Tryz.prog 99 #[.pointer (some ⟨Bs, 0, none⟩)] (fun _ : Unit => #[.int .i64 0, .int .i64 0]) (XK X) [] w := fun l J W hW _ _ h0 =>
  back_in0 n X l Bs cap a hXb J W (hW.cell hXb hBs) h0
/-- While nothing is laid. -/
def NoneI (X Y : Nat → Prop) (nb ws next : Nat) (st : St) (W0 : World) (_ : List Unit) (W : World) : Prop :=
  NetL X W nb st.1 st.2 ∧ XKept Y W0 W ∧ W.heap[ws + 2]? = some (.cells #[.int .i64 (next : Int)] 3 (0, 0))
set_option linter.unusedSimpArgs false in
set_option maxRecDepth 100000 in
set_option maxHeartbeats 4000000 in
theorem lay_none (n : Nat) (p : PatN (n + 1)) (hkd : kind p = 2) (hne : kids p = []) : LayC n p (fun next st => (next, st)) := by
  intro X nb next st vk w h hk hX h1 h2
  have HN := hide1 h
  have HX := hide1 hX
  have hnb := h.lt
  obtain ⟨a2, cap2, e2'⟩ := hk.form
  rw [hne] at e2'
  simp only [List.length_nil] at e2'
  subst e2'
  rw [valOf_eq, hkd]
  clear hX h h1 h2 hkd hk hne
  refine (callsIn_wide (n := 4)).1 ?_
  refine callsIn_of_wp_marks Tryz.func62 rfl trivial ?_ rfl
  simp only [Tryz.ntmps62, List.size_toArray, List.length_cons, List.length_nil, Nat.reduceAdd, Nat.reduceSub, Array.replicate_succ, Array.replicate_zero, List.push_toArray, List.append_toArray, List.nil_append, List.cons_append]
  gi_wp2_with (refine ⟨trivial, ?_⟩; gi_at_call 81; refine (callsIn_wide.2 (back_is _ _ _ _)).mono ?_; rintro e w9 ⟨rfl, rfl⟩)
  obtain ⟨W0, hW0⟩ : ∃ W0, (((w.alloc (Obj.cells #[Value.pointer (some ⟨nb, 0, none⟩)] 73)).alloc (Obj.cells #[Value.int IntKind.i64 2, Value.int IntKind.i64 (from_ p), Value.int IntKind.i64 (to_ p), Value.int IntKind.i64 (min_ p), Value.int IntKind.i64 (max_ p), Value.slice a2 0 cap2] 24)).alloc (Obj.cells #[Value.int IntKind.i64 (next : Int)] 3)).alloc (Obj.cells #[Value.slice a2 0 cap2] 22) = W0 := ⟨_, rfl⟩
  have hk0 : Kept w W0 := by rw [← hW0]; exact ((((Kept.refl w).alloc _ _).alloc _ _).alloc _ _).alloc _ _
  have hs0 : w.heap.size + 4 = W0.heap.size := by rw [← hW0]; simp
  have b2 : W0.heap[w.heap.size + 2]? = some (.cells #[.int .i64 (next : Int)] 3 (0, 0)) := by
    rw [← hW0]
    refine (Below.heap_alloc _ _ _ (by simp)).trans ?_
    have := World.alloc_heap_new ((w.alloc (Obj.cells #[Value.pointer (some ⟨nb, 0, none⟩)] 73)).alloc (Obj.cells #[Value.int IntKind.i64 2, Value.int IntKind.i64 (from_ p), Value.int IntKind.i64 (to_ p), Value.int IntKind.i64 (min_ p), Value.int IntKind.i64 (max_ p), Value.slice a2 0 cap2] 24)) (Obj.cells #[Value.int IntKind.i64 (next : Int)] 3)
    rwa [World.size_alloc, World.size_alloc] at this
  have b3 : W0.cell? ⟨w.heap.size + 3, 0, none⟩ = some (.slice a2 0 cap2) := by
    rw [← hW0]
    have := World.alloc_heap_new (((w.alloc (Obj.cells #[Value.pointer (some ⟨nb, 0, none⟩)] 73)).alloc (Obj.cells #[Value.int IntKind.i64 2, Value.int IntKind.i64 (from_ p), Value.int IntKind.i64 (to_ p), Value.int IntKind.i64 (min_ p), Value.int IntKind.i64 (max_ p), Value.slice a2 0 cap2] 24)).alloc (Obj.cells #[Value.int IntKind.i64 (next : Int)] 3)) (Obj.cells #[Value.slice a2 0 cap2] 22)
    rw [World.size_alloc, World.size_alloc, World.size_alloc] at this
    exact cell_of_row _ _ _ _ _ _ this
  rw [hW0]
  clear hW0
  have HK0 := hide1 hk0
  have HS0 := hide1 hs0
  have HX4 : Hid (∀ d, (fun d => X d ∨ (w.heap.size ≤ d ∧ d < w.heap.size + 4)) d → d ≠ nb) := fun d hd => by rcases hd with hd | hd; exact (HX.out d hd).2; omega
  have HNX : Hid (NetL (fun d => X d ∨ (w.heap.size ≤ d ∧ d < w.heap.size + 4)) W0 nb st.1 st.2) := (HN.out.keep hk0).sub (fun d hd => by rcases hd with hd | hd; exact .inl hd; exact .inr (by omega))
  have HY : Hid (∀ d, (fun d => X d ∨ d = w.heap.size ∨ d = w.heap.size + 1 ∨ d = w.heap.size + 3) d → d < W0.heap.size) := fun d hd => by rcases hd with hd | hd; (have := (HX.out d hd).1; omega); omega
  refine range_box rfl (by omega) (gf := 99) (lb := #[.pointer (some ⟨w.heap.size + 3, 0, none⟩)]) rfl trivial (enters_of Tryz.func99 (by kernel_rfl) rfl)
    (back_seq0 _ (fun d => X d ∨ d = w.heap.size ∨ d = w.heap.size + 1 ∨ d = w.heap.size + 3) (w.heap.size + 3) cap2 a2 (.inr (.inr (.inr rfl))) W0 b3)
    XK.trans ?kb ?kk (fun _ => rfl)
    (NoneI (fun d => X d ∨ (w.heap.size ≤ d ∧ d < w.heap.size + 4)) (fun d => X d ∨ d = w.heap.size ∨ d = w.heap.size + 1 ∨ d = w.heap.size + 3) nb w.heap.size next st W0) ?gi ?gp ⟨HNX.out, ⟨rfl, rfl, rfl, Nat.le_refl _, fun _ _ => rfl⟩, b2⟩
    (fun _ => .cells #[] 3) (fun _ _ => { tmps := #[], defers := [] })
    ?assign ?body ?done
  case kb => exact fun W l o o' hl hlo _ => ⟨by simp, fun k hk => World.putObj_heap_other (by have := HY.out k hk; omega)⟩
  case kk => exact fun W W' hW hkk => ⟨hkk.2.2.2.1, fun k hk => hkk.2.2.2.2 k (by have := HY.out k hk; omega)⟩
  case gi =>
    rintro s A A' ⟨h1, h2, h3⟩ hkk
    exact ⟨(h1.keep hkk).sub (fun d hd => .inl hd), h2.trans (hkk.x (fun d hd => by have := HY.out d hd; have := h2.2.2.2.1; omega)), (hkk.2.2.2.2 _ (Array.getElem?_eq_some_iff.1 h3).1).trans h3⟩
  case gp =>
    rintro s A l o o' ⟨h1, h2, h3⟩ hl hlo ho
    exact ⟨h1.put o' HX4.out hlo ho, h2.trans ⟨rfl, rfl, rfl, by simp, fun k hk => World.putObj_heap_other (by have := HY.out k hk; omega)⟩, (World.putObj_heap_other (by have := HS0.out; omega)).trans h3⟩
  case assign =>
    intro l x W K hx
    cases hx
  case body =>
    rintro l pre x W m hIp hpre
    have := List.prefix_nil.1 hpre
    simp at this
  case done =>
    rintro D W hD ⟨h1, h2, h3⟩ hDk
    have hc3 : W.cell? ⟨w.heap.size + 2, 0, none⟩ = some (.int .i64 (next : Int)) := cell_of_row _ _ _ _ _ _ h3
    have HA := hide1 h1
    have HB := hide1 h2
    clear h1 h2 h3
    gi_wp2
    refine ⟨by simp, .inl ⟨_, _, rfl, run_takeDeferred hDk, ?_⟩⟩
    exact ⟨_, results_tmp rfl _ _ _, rfl, (HA.out.put _ HX4.out hDk rfl).sub (fun d hd => .inl hd), (HK0.out.x (fun d hd => (HX.out d hd).1)).trans ((HB.out.trans (XKept.put _ (fun k hk => by have := HY.out k hk; omega))).sub (fun d hd => .inl hd))⟩

end Ex
end Go.Proofs.YtfajoknacfjedaaGreatDoor
namespace Go.Proofs.YtfajoknacfjedaaGreatDoor
open Go.RowKit
namespace Ex

/-- What lay does with any lean pattern. -/
def layV : (n : Nat) → PatN (n + 1) → Nat → St → Nat × St
  | 0, q => if kind q = 2 then (fun next st => (next, st)) else rangeL q
  | n + 1, q => if kind q = 1 then rangeL q else if kind q = 2 then rowL (layV n) (kids q).reverse else if kind q = 3 then (match kids q with | [] => rangeL q | r :: l => altsL (layV n) r l) else (match kids q with | [] => rangeL q | r :: _ => if max_ q = -1 then endlessL (layV n r) (min_ q) else boundL (layV n r) (min_ q) (max_ q))
/-- Lean patterns. -/
def LeanOk : (n : Nat) → PatN (n + 1) → Prop
  | 0, q => kind q = 1 ∨ kind q = 2
  | n + 1, q => kind q = 1 ∨ (kind q = 2 ∧ ∀ r ∈ kids q, LeanOk n r) ∨ (kind q = 3 ∧ 2 ≤ (kids q).length ∧ ∀ r ∈ kids q, LeanOk n r) ∨ (kind q = 4 ∧ 0 ≤ min_ q ∧ min_ q ≤ 1000 ∧ (max_ q = -1 ∨ min_ q ≤ max_ q ∧ max_ q ≤ 1000) ∧ (kids q).length = 1 ∧ ∀ r ∈ kids q, LeanOk n r)
theorem none_grows : GrowsL (fun next st => (next, st)) := fun _ _ => ⟨Nat.le_refl _, Nat.le_refl _⟩
theorem lay_all : ∀ (n : Nat) (q : PatN (n + 1)), LeanOk n q → LayC n q (layV n q) ∧ GrowsL (layV n q)
  | 0, q, h => by
    unfold layV
    rcases h with h | h
    · rw [if_neg (by omega)]
      exact ⟨range_c 0 q h, range_grows q⟩
    · rw [if_pos h]
      exact ⟨lay_none 0 q h (none_of _), none_grows⟩
  | n + 1, q, h => by
    have ih := lay_all n
    rcases h with h | ⟨h, h2⟩ | ⟨h, h1, h2⟩ | ⟨h, h1, h2, h3, h4, h5⟩
    · unfold layV
      rw [if_pos h]
      exact ⟨range_c (n + 1) q h, range_grows q⟩
    · unfold layV
      rw [if_neg (by omega), if_pos h]
      by_cases hne : kids q = []
      · rw [hne]
        exact ⟨lay_none (n + 1) q h hne, none_grows⟩
      · exact ⟨lay_row n q h hne (layV n) (fun r hr => (ih r (h2 r hr)).1) (fun r hr => (ih r (h2 r hr)).2), row_grows _ (fun r hr => (ih r (h2 r (List.mem_reverse.1 hr))).2)⟩
    · unfold layV
      rw [if_neg (by omega), if_neg (by omega), if_pos h]
      obtain ⟨ks, hks⟩ : ∃ x, kids q = x := ⟨_, rfl⟩
      rw [hks] at h1 h2 ⊢
      cases ks with
      | nil => simp at h1
      | cons r l =>
        refine ⟨lay_alts n q r l hks (by simp at h1; omega) h (layV n) (fun z hz => (ih z (h2 z (by rw [← hks]; exact hz))).1) (fun z hz => (ih z (h2 z (by rw [← hks]; exact hz))).2), fun next st => ?_⟩
        have g1 := (ih r (h2 r (by simp))).2 next st
        have g2 := alt_grows l (fun z hz => (ih z (h2 z (by simp [hz]))).2) (layV n r next st).1 next (layV n r next st).2
        exact ⟨Nat.le_trans g1.1 g2.1, Nat.le_trans g1.2 g2.2⟩
    · unfold layV
      rw [if_neg (by omega), if_neg (by omega), if_neg (by omega)]
      obtain ⟨ks, hks⟩ : ∃ x, kids q = x := ⟨_, rfl⟩
      rw [hks] at h4 h5 ⊢
      cases ks with
      | nil => simp at h4
      | cons r l =>
        have hl : l = [] := by simpa using h4
        subst hl
        have hr := ih r (h5 r (by simp))
        show LayC (n + 1) q (if max_ q = -1 then endlessL (layV n r) (min_ q) else boundL (layV n r) (min_ q) (max_ q)) ∧ GrowsL (if max_ q = -1 then endlessL (layV n r) (min_ q) else boundL (layV n r) (min_ q) (max_ q))
        by_cases hm : max_ q = -1
        · rw [if_pos hm]
          exact ⟨lay_times n q r hks h hm h1 h2 (layV n r) hr.1 hr.2, endless_grows hr.2 (min_ q)⟩
        · rw [if_neg hm]
          have h3 := h3.resolve_left hm
          exact ⟨lay_bound n q r hks h h1 h3.1 h3.2 (layV n r) hr.1 hr.2, bound_grows hr.2 (min_ q) (max_ q)⟩

end Ex
end Go.Proofs.YtfajoknacfjedaaGreatDoor
namespace Go.Proofs.YtfajoknacfjedaaGreatDoor
open Go.RowKit
namespace Ex

/-- Does a net take a row of bytes from a place on, in at most so many steps? -/
def AccN (ts : List (Int × Int × Nat)) (fs : List (Nat × Nat)) : Nat → List Int → Nat → Prop
  | 0, _, _ => False
  | k + 1, bs, p => (p = 4096 ∧ bs = []) ∨ (∃ c bs' t, p < 4096 ∧ bs = c :: bs' ∧ ts[p]? = some t ∧ t.1 ≤ c ∧ c ≤ t.2.1 ∧ AccN ts fs k bs' t.2.2) ∨ (∃ f, 4097 ≤ p ∧ fs[p - 4097]? = some f ∧ (AccN ts fs k bs f.1 ∨ AccN ts fs k bs f.2))
theorem AccN.more {ts : List (Int × Int × Nat)} {fs : List (Nat × Nat)} : ∀ {k : Nat} {bs : List Int} {p : Nat}, AccN ts fs k bs p → AccN ts fs (k + 1) bs p
  | 0, _, _, h => h.elim
  | k + 1, bs, p, h => by
    rcases h with h | ⟨c, bs', t, h1, h2, h3, h4, h5, h6⟩ | ⟨f, h1, h2, h3⟩
    · exact .inl h
    · exact .inr (.inl ⟨c, bs', t, h1, h2, h3, h4, h5, AccN.more h6⟩)
    · exact .inr (.inr ⟨f, h1, h2, h3.imp AccN.more AccN.more⟩)
def Acc (ts : List (Int × Int × Nat)) (fs : List (Nat × Nat)) (bs : List Int) (p : Nat) : Prop := ∃ k, AccN ts fs k bs p
theorem acc_fork {ts : List (Int × Int × Nat)} {fs : List (Nat × Nat)} {bs : List Int} {i : Nat} {f : Nat × Nat} (hf : fs[i]? = some f) (h : Acc ts fs bs f.1 ∨ Acc ts fs bs f.2) : Acc ts fs bs (4097 + i) := by
  rcases h with ⟨k, h⟩ | ⟨k, h⟩
  · exact ⟨k + 1, .inr (.inr ⟨f, by omega, by rw [Nat.add_sub_cancel_left]; exact hf, .inl h⟩)⟩
  · exact ⟨k + 1, .inr (.inr ⟨f, by omega, by rw [Nat.add_sub_cancel_left]; exact hf, .inr h⟩)⟩
theorem accN_fork {ts : List (Int × Int × Nat)} {fs : List (Nat × Nat)} {bs : List Int} {i k : Nat} {f : Nat × Nat} (hf : fs[i]? = some f) (h : AccN ts fs (k + 1) bs (4097 + i)) : AccN ts fs k bs f.1 ∨ AccN ts fs k bs f.2 := by
  rcases h with h | ⟨c, bs', t, h1, _⟩ | ⟨f', h1, h2, h3⟩
  · omega
  · omega
  · rw [Nat.add_sub_cancel_left, hf] at h2
    cases h2
    exact h3
/-- So many rows of L, one behind the other. -/
def PowL (L : List Int → Prop) : Nat → List Int → Prop
  | 0, bs => bs = []
  | k + 1, bs => ∃ u v, bs = u ++ v ∧ L u ∧ PowL L k v
/-- What a laid part does within a whole net: from its first place on just the rows of L with, behind them, what next takes. -/
def Does (ts : List (Int × Int × Nat)) (fs : List (Nat × Nat)) (first next : Nat) (L : List Int → Prop) : Prop :=
  (∀ u v, L u → Acc ts fs v next → Acc ts fs (u ++ v) first) ∧ ∀ k bs, AccN ts fs k bs first → ∃ u v, bs = u ++ v ∧ L u ∧ AccN ts fs k v next
/-- The whole net has what was laid between two states. -/
def HasL (ts : List (Int × Int × Nat)) (fs : List (Nat × Nat)) (s s' : St) : Prop :=
  (∀ (i : Nat) (t : Int × Int × Nat), s.1.length ≤ i → s'.1[i]? = some t → ts[i]? = some t) ∧ ∀ (i : Nat) (f : Nat × Nat), s.2.length ≤ i → s'.2[i]? = some f → fs[i]? = some f
/-- What a way of laying means. -/
def Means (M : Nat → St → Nat × St) (L : List Int → Prop) : Prop := ∀ next st, (M next st).2.1.length ≤ 4096 → ∀ ts fs, HasL ts fs st (M next st).2 → Does ts fs (M next st).1 next L
/-- Only what lies behind is added. -/
def Adds (M : Nat → St → Nat × St) : Prop := ∀ next st, (∀ (i : Nat) (t : Int × Int × Nat), st.1[i]? = some t → (M next st).2.1[i]? = some t) ∧ ∀ (i : Nat) (f : Nat × Nat), st.2[i]? = some f → (M next st).2.2[i]? = some f
theorem Adds.len {M : Nat → St → Nat × St} (h : Adds M) (next : Nat) (st : St) : st.1.length ≤ (M next st).2.1.length ∧ st.2.length ≤ (M next st).2.2.length := by
  have := h next st
  constructor
  · by_cases e : st.1.length = 0
    · omega
    · have h1 := this.1 (st.1.length - 1) (st.1[st.1.length - 1]'(by omega)) (List.getElem?_eq_getElem (by omega))
      have := (List.getElem?_eq_some_iff.1 h1).1
      omega
  · by_cases e : st.2.length = 0
    · omega
    · have h1 := this.2 (st.2.length - 1) (st.2[st.2.length - 1]'(by omega)) (List.getElem?_eq_getElem (by omega))
      have := (List.getElem?_eq_some_iff.1 h1).1
      omega
theorem does_refl (ts : List (Int × Int × Nat)) (fs : List (Nat × Nat)) (p : Nat) : Does ts fs p p (fun u => u = []) :=
  ⟨fun u v hu hv => by subst hu; exact hv, fun k bs h => ⟨[], bs, rfl, rfl, h⟩⟩
theorem Does.trans {ts : List (Int × Int × Nat)} {fs : List (Nat × Nat)} {a b c : Nat} {L M : List Int → Prop} (h1 : Does ts fs a b L) (h2 : Does ts fs b c M) : Does ts fs a c (fun w => ∃ u v, w = u ++ v ∧ L u ∧ M v) := by
  refine ⟨fun w v ⟨x, y, e, hx, hy⟩ hv => ?_, fun k bs h => ?_⟩
  · subst e
    rw [List.append_assoc]
    exact h1.1 _ _ hx (h2.1 _ _ hy hv)
  · obtain ⟨u, v, e, hu, hv⟩ := h1.2 k bs h
    obtain ⟨x, y, e2, hx, hy⟩ := h2.2 k v hv
    exact ⟨u ++ x, y, by rw [e, e2, List.append_assoc], ⟨u, x, rfl, hu, hx⟩, hy⟩
theorem Does.imp {ts : List (Int × Int × Nat)} {fs : List (Nat × Nat)} {a b : Nat} {L M : List Int → Prop} (h : Does ts fs a b L) (e : ∀ u, L u ↔ M u) : Does ts fs a b M :=
  ⟨fun u v hu hv => h.1 u v ((e u).2 hu) hv, fun k bs hk => by obtain ⟨u, v, e1, hu, hv⟩ := h.2 k bs hk; exact ⟨u, v, e1, (e u).1 hu, hv⟩⟩
/-- A fork to two places that do L and M up to the same place. -/
theorem does_or {ts : List (Int × Int × Nat)} {fs : List (Nat × Nat)} {a b c i : Nat} {L M : List Int → Prop} (hf : fs[i]? = some (a, b)) (h1 : Does ts fs a c L) (h2 : Does ts fs b c M) : Does ts fs (4097 + i) c (fun u => L u ∨ M u) := by
  refine ⟨fun u v hu hv => acc_fork hf ?_, fun k bs h => ?_⟩
  · rcases hu with hu | hu
    · exact .inl (h1.1 _ _ hu hv)
    · exact .inr (h2.1 _ _ hu hv)
  · cases k with
    | zero => exact h.elim
    | succ k =>
      rcases accN_fork hf h with h | h
      · obtain ⟨u, v, e, hu, hv⟩ := h1.2 k bs h
        exact ⟨u, v, e, .inl hu, hv.more⟩
      · obtain ⟨u, v, e, hu, hv⟩ := h2.2 k bs h
        exact ⟨u, v, e, .inr hu, hv.more⟩
/-- A fork that leads to a part that leads back to the fork. -/
theorem does_loop {ts : List (Int × Int × Nat)} {fs : List (Nat × Nat)} {a c i : Nat} {L : List Int → Prop} (hf : fs[i]? = some (a, c)) (h : Does ts fs a (4097 + i) L) : Does ts fs (4097 + i) c (fun u => ∃ k, PowL L k u) := by
  have key : ∀ (k : Nat) (u v : List Int), PowL L k u → Acc ts fs v c → Acc ts fs (u ++ v) (4097 + i) := by
    intro k
    induction k with
    | zero =>
      intro u v hu hv
      have hu : u = [] := hu
      subst hu
      exact acc_fork hf (.inr hv)
    | succ k ih =>
      intro u v hu hv
      obtain ⟨x, y, e, hx, hy⟩ := hu
      subst e
      rw [List.append_assoc]
      exact acc_fork hf (.inl (h.1 _ _ hx (ih y v hy hv)))
  refine ⟨fun u v ⟨k, hu⟩ hv => key k u v hu hv, fun k => ?_⟩
  · induction k with
    | zero => exact fun bs h => h.elim
    | succ k ih =>
      intro bs hb
      rcases accN_fork hf hb with hb | hb
      · obtain ⟨u, v, e, hu, hv⟩ := h.2 k bs hb
        obtain ⟨x, y, e2, ⟨m, hx⟩, hy⟩ := ih v hv
        exact ⟨u ++ x, y, by rw [e, e2, List.append_assoc], ⟨m + 1, u, x, rfl, hu, hx⟩, hy.more⟩
      · exact ⟨[], bs, rfl, ⟨0, rfl⟩, hb.more⟩

end Ex
end Go.Proofs.YtfajoknacfjedaaGreatDoor
namespace Go.Proofs.YtfajoknacfjedaaGreatDoor
open Go.RowKit
namespace Ex

/-- All that lay in s lies in s'. -/
def InL (s s' : St) : Prop := (∀ (i : Nat) (t : Int × Int × Nat), s.1[i]? = some t → s'.1[i]? = some t) ∧ ∀ (i : Nat) (f : Nat × Nat), s.2[i]? = some f → s'.2[i]? = some f
theorem InL.refl (s : St) : InL s s := ⟨fun _ _ h => h, fun _ _ h => h⟩
theorem InL.trans {a b c : St} (h : InL a b) (k : InL b c) : InL a c := ⟨fun i t e => k.1 i t (h.1 i t e), fun i f e => k.2 i f (h.2 i f e)⟩
theorem InL.len {s s' : St} (h : InL s s') : s.1.length ≤ s'.1.length ∧ s.2.length ≤ s'.2.length := by
  constructor
  · by_cases e : s.1.length = 0
    · omega
    · have h1 := h.1 (s.1.length - 1) (s.1[s.1.length - 1]'(by omega)) (List.getElem?_eq_getElem (by omega))
      have := (List.getElem?_eq_some_iff.1 h1).1
      omega
  · by_cases e : s.2.length = 0
    · omega
    · have h1 := h.2 (s.2.length - 1) (s.2[s.2.length - 1]'(by omega)) (List.getElem?_eq_getElem (by omega))
      have := (List.getElem?_eq_some_iff.1 h1).1
      omega
theorem HasL.fore {ts : List (Int × Int × Nat)} {fs : List (Nat × Nat)} {s s1 s2 : St} (h : HasL ts fs s s2) (k : InL s1 s2) : HasL ts fs s s1 := ⟨fun i t hi e => h.1 i t hi (k.1 i t e), fun i f hi e => h.2 i f hi (k.2 i f e)⟩
theorem HasL.rest {ts : List (Int × Int × Nat)} {fs : List (Nat × Nat)} {s s1 s2 : St} (h : HasL ts fs s s2) (k : InL s s1) : HasL ts fs s1 s2 := ⟨fun i t hi e => h.1 i t (Nat.le_trans k.len.1 hi) e, fun i f hi e => h.2 i f (Nat.le_trans k.len.2 hi) e⟩
theorem Adds.inL {M : Nat → St → Nat × St} (h : Adds M) (next : Nat) (st : St) : InL st (M next st).2 := h next st
theorem in_fork (ts : List (Int × Int × Nat)) (fs l : List (Nat × Nat)) : InL (ts, fs) (ts, fs ++ l) := ⟨fun _ _ h => h, fun i f h => by
  rw [List.getElem?_append_left (List.getElem?_eq_some_iff.1 h).1]; exact h⟩

theorem range_adds {n : Nat} (q : PatN (n + 1)) : Adds (rangeL q) := fun next st => ⟨fun i t h => by
  show (st.1 ++ [_])[i]? = _
  rw [List.getElem?_append_left (List.getElem?_eq_some_iff.1 h).1]; exact h, fun _ _ h => h⟩
def RangeS {n : Nat} (q : PatN (n + 1)) (u : List Int) : Prop := ∃ c, u = [c] ∧ IntKind.u8.wrap (from_ q) ≤ c ∧ c ≤ IntKind.u8.wrap (to_ q)
theorem range_means {n : Nat} (q : PatN (n + 1)) : Means (rangeL q) (RangeS q) := by
  intro next st hb ts fs hH
  have hb : (st.1 ++ [(IntKind.u8.wrap (from_ q), IntKind.u8.wrap (to_ q), next)]).length ≤ 4096 := hb
  simp only [List.length_append, List.length_singleton] at hb
  have ht : ts[st.1.length]? = some (IntKind.u8.wrap (from_ q), IntKind.u8.wrap (to_ q), next) := hH.1 _ _ (Nat.le_refl _) (by show (st.1 ++ [_])[st.1.length]? = _; simp)
  refine ⟨fun u v hu ⟨k, hv⟩ => ?_, fun k bs h => ?_⟩
  · obtain ⟨c, rfl, h1, h2⟩ := hu
    exact ⟨k + 1, .inr (.inl ⟨c, v, _, by show st.1.length < 4096; omega, rfl, ht, h1, h2, hv⟩)⟩
  · cases k with
    | zero => exact h.elim
    | succ k =>
      rcases h with h | ⟨c, bs', t, h1, h2, h3, h4, h5, h6⟩ | ⟨f, h1, _⟩
      · have : st.1.length = 4096 := h.1
        omega
      · have h3 : ts[st.1.length]? = some t := h3
        rw [ht] at h3
        cases h3
        exact ⟨[c], bs', by rw [h2]; rfl, ⟨c, rfl, h4, h5⟩, h6.more⟩
      · have : 4097 ≤ st.1.length := h1
        omega
theorem none_adds : Adds (fun next st => (next, st)) := fun _ st => InL.refl st
theorem none_means : Means (fun next st => (next, st)) (fun u => u = []) := fun next _ _ ts fs _ => does_refl ts fs next

/-- Rows of parts that are laid from behind. -/
def RowS {α : Type} (S : α → List Int → Prop) : List α → List Int → Prop
  | [], w => w = []
  | q :: l, w => ∃ u v, w = u ++ v ∧ RowS S l u ∧ S q v
theorem row_adds {n : Nat} {F : PatN (n + 1) → Nat → St → Nat × St} : ∀ (l : List (PatN (n + 1))), (∀ q ∈ l, Adds (F q)) → Adds (rowL F l)
  | [], _ => none_adds
  | q :: l, h => fun next st => ((h q (by simp)).inL next st).trans (row_adds l (fun r hr => h r (by simp [hr])) (F q next st).1 (F q next st).2)
theorem row_means {n : Nat} {F : PatN (n + 1) → Nat → St → Nat × St} {S : PatN (n + 1) → List Int → Prop} : ∀ (l : List (PatN (n + 1))), (∀ q ∈ l, Adds (F q)) → (∀ q ∈ l, Means (F q) (S q)) → Means (rowL F l) (RowS S l)
  | [], _, _ => none_means
  | q :: l, hA, hM => by
    intro next st hb ts fs hH
    have a1 := (hA q (by simp)).inL next st
    have a2 := (row_adds l (fun r hr => hA r (by simp [hr]))).inL (F q next st).1 (F q next st).2
    have hb' : (rowL F l (F q next st).1 (F q next st).2).2.1.length ≤ 4096 := hb
    have d1 := hM q (by simp) next st (Nat.le_trans a2.len.1 hb') ts fs (hH.fore a2)
    have d2 := row_means l (fun r hr => hA r (by simp [hr])) (fun r hr => hM r (by simp [hr])) (F q next st).1 (F q next st).2 hb' ts fs (hH.rest a1)
    exact d2.trans d1
theorem pow_snoc {L : List Int → Prop} : ∀ (m : Nat) (w : List Int), (∃ u v, w = u ++ v ∧ PowL L m u ∧ L v) ↔ PowL L (m + 1) w
  | 0, w => by
    constructor
    · rintro ⟨u, v, e, hu, hv⟩
      have hu : u = [] := hu
      subst hu
      exact ⟨v, [], by rw [e]; simp, hv, rfl⟩
    · rintro ⟨u, v, e, hu, hv⟩
      have hv : v = [] := hv
      subst hv
      exact ⟨[], u, by rw [e]; simp, rfl, hu⟩
  | m + 1, w => by
    constructor
    · rintro ⟨u, v, e, ⟨x, y, e2, hx, hy⟩, hv⟩
      exact ⟨x, y ++ v, by rw [e, e2, List.append_assoc], hx, (pow_snoc m _).1 ⟨y, v, rfl, hy, hv⟩⟩
    · rintro ⟨u, v, e, hu, hv⟩
      obtain ⟨x, y, e2, hx, hy⟩ := (pow_snoc m v).2 hv
      exact ⟨u ++ x, y, by rw [e, e2, List.append_assoc], ⟨u, x, rfl, hu, hx⟩, hy⟩
theorem copies_adds {L : Nat → St → Nat × St} (h : Adds L) : ∀ m, Adds (copiesL L m)
  | 0 => none_adds
  | m + 1 => fun next st => (h.inL next st).trans (copies_adds h m (L next st).1 (L next st).2)
theorem copies_means {L : Nat → St → Nat × St} {S : List Int → Prop} (hA : Adds L) (hM : Means L S) : ∀ m, Means (copiesL L m) (PowL S m)
  | 0 => none_means
  | m + 1 => by
    intro next st hb ts fs hH
    have a1 := hA.inL next st
    have a2 := (copies_adds hA m).inL (L next st).1 (L next st).2
    have hb' : (copiesL L m (L next st).1 (L next st).2).2.1.length ≤ 4096 := hb
    have d1 := hM next st (Nat.le_trans a2.len.1 hb') ts fs (hH.fore a2)
    have d2 := copies_means hA hM m (L next st).1 (L next st).2 hb' ts fs (hH.rest a1)
    exact (d2.trans d1).imp (pow_snoc m)
theorem alt_adds {n : Nat} {F : PatN (n + 1) → Nat → St → Nat × St} : ∀ (l : List (PatN (n + 1))), (∀ q ∈ l, Adds (F q)) → ∀ first, Adds (altL F l first)
  | [], _, _ => fun _ st => InL.refl st
  | q :: l, h, first => fun next st => (((h q (by simp)).inL next st).trans (in_fork _ _ _)).trans (alt_adds l (fun r hr => h r (by simp [hr])) _ next ((F q next st).2.1, (F q next st).2.2 ++ [(first, (F q next st).1)]))
theorem alt_does {n : Nat} {F : PatN (n + 1) → Nat → St → Nat × St} {S : PatN (n + 1) → List Int → Prop} {ts : List (Int × Int × Nat)} {fs : List (Nat × Nat)} {next : Nat} : ∀ (l : List (PatN (n + 1))), (∀ q ∈ l, Adds (F q)) → (∀ q ∈ l, Means (F q) (S q)) → ∀ (first : Nat) (st : St) (L0 : List Int → Prop), (altL F l first next st).2.1.length ≤ 4096 → HasL ts fs st (altL F l first next st).2 → Does ts fs first next L0 → Does ts fs (altL F l first next st).1 next (fun u => L0 u ∨ ∃ q ∈ l, S q u)
  | [], _, _, first, st, L0, _, _, hd => hd.imp (fun u => by simp)
  | q :: l, hA, hM, first, st, L0, hb, hH, hd => by
    have a1 := (hA q (by simp)).inL next st
    have a12 := in_fork (F q next st).2.1 (F q next st).2.2 [(first, (F q next st).1)]
    have a2 := (alt_adds l (fun r hr => hA r (by simp [hr])) (4097 + (F q next st).2.2.length)).inL next ((F q next st).2.1, (F q next st).2.2 ++ [(first, (F q next st).1)])
    have hb' : (altL F l (4097 + (F q next st).2.2.length) next ((F q next st).2.1, (F q next st).2.2 ++ [(first, (F q next st).1)])).2.1.length ≤ 4096 := hb
    have hH' : HasL ts fs st (altL F l (4097 + (F q next st).2.2.length) next ((F q next st).2.1, (F q next st).2.2 ++ [(first, (F q next st).1)])).2 := hH
    have d1 := hM q (by simp) next st (Nat.le_trans (a12.trans a2).len.1 hb') ts fs (hH'.fore (a12.trans a2))
    have hf : fs[(F q next st).2.2.length]? = some (first, (F q next st).1) := (hH'.fore a2).2 _ _ a1.len.2 (by simp)
    have ih := alt_does l (fun r hr => hA r (by simp [hr])) (fun r hr => hM r (by simp [hr])) _ _ _ hb' (hH'.rest (a1.trans a12)) (does_or hf hd d1)
    refine ih.imp (fun u => ?_)
    simp only [List.mem_cons, exists_eq_or_imp]
    rw [or_assoc]
theorem alts_adds {n : Nat} {F : PatN (n + 1) → Nat → St → Nat × St} (q : PatN (n + 1)) (l : List (PatN (n + 1))) (h : ∀ r ∈ q :: l, Adds (F r)) : Adds (altsL F q l) := fun next st =>
  ((h q (by simp)).inL next st).trans (alt_adds l (fun r hr => h r (by simp [hr])) (F q next st).1 next (F q next st).2)
theorem alts_means {n : Nat} {F : PatN (n + 1) → Nat → St → Nat × St} {S : PatN (n + 1) → List Int → Prop} (q : PatN (n + 1)) (l : List (PatN (n + 1))) (hA : ∀ r ∈ q :: l, Adds (F r)) (hM : ∀ r ∈ q :: l, Means (F r) (S r)) : Means (altsL F q l) (fun u => ∃ r ∈ q :: l, S r u) := by
  intro next st hb ts fs hH
  have a1 := (hA q (by simp)).inL next st
  have a2 := (alt_adds l (fun r hr => hA r (by simp [hr])) (F q next st).1).inL next (F q next st).2
  have hb' : (altL F l (F q next st).1 next (F q next st).2).2.1.length ≤ 4096 := hb
  have d1 := hM q (by simp) next st (Nat.le_trans a2.len.1 hb') ts fs (hH.fore a2)
  have d2 := alt_does l (fun r hr => hA r (by simp [hr])) (fun r hr => hM r (by simp [hr])) (F q next st).1 (F q next st).2 (S q) hb' (hH.rest a1) d1
  exact d2.imp (fun u => by simp only [List.mem_cons, exists_eq_or_imp])
/-- At most so many. -/
def UpTo (L : List Int → Prop) (j : Nat) (w : List Int) : Prop := ∃ k, k ≤ j ∧ PowL L k w
theorem upTo_succ {L : List Int → Prop} (j : Nat) (w : List Int) : ((∃ u v, w = u ++ v ∧ L u ∧ UpTo L j v) ∨ w = []) ↔ UpTo L (j + 1) w := by
  constructor
  · rintro (⟨u, v, e, hu, k, hk, hv⟩ | h)
    · exact ⟨k + 1, by omega, u, v, e, hu, hv⟩
    · exact ⟨0, by omega, h⟩
  · rintro ⟨k, hk, h⟩
    cases k with
    | zero => exact .inr h
    | succ k =>
      obtain ⟨u, v, e, hu, hv⟩ := h
      exact .inl ⟨u, v, e, hu, k, by omega, hv⟩
theorem opt_adds {L : Nat → St → Nat × St} (h : Adds L) (after : Nat) : ∀ m, Adds (optL L after m)
  | 0 => none_adds
  | m + 1 => fun next st => ((h.inL next st).trans (in_fork _ _ _)).trans (opt_adds h after m (4097 + (L next st).2.2.length) ((L next st).2.1, (L next st).2.2 ++ [((L next st).1, after)]))
theorem opt_does {L : Nat → St → Nat × St} {S : List Int → Prop} (hA : Adds L) (hM : Means L S) {ts : List (Int × Int × Nat)} {fs : List (Nat × Nat)} {after : Nat} : ∀ (m next j : Nat) (st : St), (optL L after m next st).2.1.length ≤ 4096 → HasL ts fs st (optL L after m next st).2 → Does ts fs next after (UpTo S j) → Does ts fs (optL L after m next st).1 after (UpTo S (m + j))
  | 0, next, j, st, _, _, hd => by rw [Nat.zero_add]; exact hd
  | m + 1, next, j, st, hb, hH, hd => by
    have a1 := hA.inL next st
    have a12 := in_fork (L next st).2.1 (L next st).2.2 [((L next st).1, after)]
    have a2 := (opt_adds hA after m).inL (4097 + (L next st).2.2.length) ((L next st).2.1, (L next st).2.2 ++ [((L next st).1, after)])
    have hb' : (optL L after m (4097 + (L next st).2.2.length) ((L next st).2.1, (L next st).2.2 ++ [((L next st).1, after)])).2.1.length ≤ 4096 := hb
    have hH' : HasL ts fs st (optL L after m (4097 + (L next st).2.2.length) ((L next st).2.1, (L next st).2.2 ++ [((L next st).1, after)])).2 := hH
    have d1 := hM next st (Nat.le_trans (a12.trans a2).len.1 hb') ts fs (hH'.fore (a12.trans a2))
    have hf : fs[(L next st).2.2.length]? = some ((L next st).1, after) := (hH'.fore a2).2 _ _ a1.len.2 (by simp)
    have d2 := (does_or hf (d1.trans hd) (does_refl ts fs after)).imp (upTo_succ j)
    have ih := opt_does hA hM m _ (j + 1) _ hb' (hH'.rest (a1.trans a12)) d2
    rw [show m + 1 + j = m + (j + 1) by omega]
    exact ih
theorem upTo_zero {L : List Int → Prop} (w : List Int) : w = [] ↔ UpTo L 0 w := ⟨fun h => ⟨0, Nat.le_refl _, h⟩, fun ⟨k, hk, h⟩ => by
  obtain rfl : k = 0 := by omega
  exact h⟩
theorem pow_add {L : List Int → Prop} : ∀ (a b : Nat) (w : List Int), (∃ u v, w = u ++ v ∧ PowL L a u ∧ PowL L b v) ↔ PowL L (a + b) w
  | 0, b, w => by
    rw [Nat.zero_add]
    constructor
    · rintro ⟨u, v, e, hu, hv⟩
      have hu : u = [] := hu
      subst hu
      rw [e]
      exact hv
    · exact fun h => ⟨[], w, rfl, rfl, h⟩
  | a + 1, b, w => by
    rw [Nat.succ_add]
    constructor
    · rintro ⟨u, v, e, ⟨x, y, e2, hx, hy⟩, hv⟩
      exact ⟨x, y ++ v, by rw [e, e2, List.append_assoc], hx, (pow_add a b _).1 ⟨y, v, rfl, hy, hv⟩⟩
    · rintro ⟨u, v, e, hu, hv⟩
      obtain ⟨x, y, e2, hx, hy⟩ := (pow_add a b v).2 hv
      exact ⟨u ++ x, y, by rw [e, e2, List.append_assoc], ⟨u, x, rfl, hu, hx⟩, hy⟩
/-- From so many to so many times (most below 0: without end). -/
def TimesS (L : List Int → Prop) (mn mx : Int) (w : List Int) : Prop := ∃ k : Nat, mn ≤ (k : Int) ∧ (mx = -1 ∨ (k : Int) ≤ mx) ∧ PowL L k w
theorem bound_adds {L : Nat → St → Nat × St} (h : Adds L) (mn mx : Int) : Adds (boundL L mn mx) := fun next st =>
  ((opt_adds h next (mx - mn).toNat).inL next st).trans (copies_adds h mn.toNat _ _)
theorem bound_means {L : Nat → St → Nat × St} {S : List Int → Prop} (hA : Adds L) (hM : Means L S) {mn mx : Int} (h0 : 0 ≤ mn) (h1 : mn ≤ mx) : Means (boundL L mn mx) (TimesS S mn mx) := by
  intro next st hb ts fs hH
  have a1 := (opt_adds hA next (mx - mn).toNat).inL next st
  have a2 := (copies_adds hA mn.toNat).inL (optL L next (mx - mn).toNat next st).1 (optL L next (mx - mn).toNat next st).2
  have hb' : (copiesL L mn.toNat (optL L next (mx - mn).toNat next st).1 (optL L next (mx - mn).toNat next st).2).2.1.length ≤ 4096 := hb
  have hH' : HasL ts fs st (copiesL L mn.toNat (optL L next (mx - mn).toNat next st).1 (optL L next (mx - mn).toNat next st).2).2 := hH
  have d1 := opt_does hA hM (ts := ts) (fs := fs) (after := next) (mx - mn).toNat next 0 st (Nat.le_trans a2.len.1 hb') (hH'.fore a2) ((does_refl ts fs next).imp upTo_zero)
  have d2 := copies_means hA hM mn.toNat _ _ hb' ts fs (hH'.rest a1)
  refine (d2.trans d1).imp (fun w => ?_)
  constructor
  · rintro ⟨u, v, e, hu, k, hk, hv⟩
    exact ⟨mn.toNat + k, by omega, .inr (by omega), (pow_add _ _ _).1 ⟨u, v, e, hu, hv⟩⟩
  · rintro ⟨k, hk1, hk2, h⟩
    have hk2 : (k : Int) ≤ mx := by omega
    obtain ⟨u, v, e, hu, hv⟩ := (pow_add mn.toNat (k - mn.toNat) w).2 (by rw [show mn.toNat + (k - mn.toNat) = k by omega]; exact h)
    exact ⟨u, v, e, hu, k - mn.toNat, by omega, hv⟩
theorem loop_in {L : Nat → St → Nat × St} (h : Adds L) (mn : Int) (next : Nat) (st : St) : InL st (loopL L mn next st).2 ∧ (loopL L mn next st).2.2[st.2.length]? = some ((L (4097 + st.2.length) (st.1, st.2 ++ [(next, next)])).1, next) ∧ (loopL L mn next st).2.1 = (L (4097 + st.2.length) (st.1, st.2 ++ [(next, next)])).2.1 ∧ ∀ i, i ≠ st.2.length → (loopL L mn next st).2.2[i]? = (L (4097 + st.2.length) (st.1, st.2 ++ [(next, next)])).2.2[i]? := by
  have a1 := h.inL (4097 + st.2.length) (st.1, st.2 ++ [(next, next)])
  have a0 := in_fork st.1 st.2 [(next, next)]
  have hi : (L (4097 + st.2.length) (st.1, st.2 ++ [(next, next)])).2.2[st.2.length]? = some (next, next) := a1.2 _ _ (by simp)
  have hl := (List.getElem?_eq_some_iff.1 hi).1
  have e1 : (loopL L mn next st).2.2[st.2.length]? = some ((L (4097 + st.2.length) (st.1, st.2 ++ [(next, next)])).1, next) := by
    show ((L (4097 + st.2.length) (st.1, st.2 ++ [(next, next)])).2.2.set st.2.length _)[st.2.length]? = _
    rw [List.getElem?_set_self hl, List.getD_eq_getElem?_getD, hi]
    rfl
  have e2 : ∀ i, i ≠ st.2.length → (loopL L mn next st).2.2[i]? = (L (4097 + st.2.length) (st.1, st.2 ++ [(next, next)])).2.2[i]? := fun i hne => by
    show ((L (4097 + st.2.length) (st.1, st.2 ++ [(next, next)])).2.2.set st.2.length _)[i]? = _
    rw [List.getElem?_set_ne (Ne.symm hne)]
  refine ⟨⟨fun i t e => a1.1 i t e, fun i f e => ?_⟩, e1, rfl, e2⟩
  have hlt := (List.getElem?_eq_some_iff.1 e).1
  rw [e2 i (by omega)]
  exact a1.2 i f (a0.2 i f e)
theorem loop_adds {L : Nat → St → Nat × St} (h : Adds L) (mn : Int) : Adds (loopL L mn) := fun next st => (loop_in h mn next st).1
theorem loop_does {L : Nat → St → Nat × St} {S : List Int → Prop} (hA : Adds L) (hM : Means L S) (mn : Int) (next : Nat) (st : St) (hb : (loopL L mn next st).2.1.length ≤ 4096) (ts : List (Int × Int × Nat)) (fs : List (Nat × Nat)) (hH : HasL ts fs st (loopL L mn next st).2) :
    Does ts fs (4097 + st.2.length) next (fun u => ∃ k, PowL S k u) ∧ Does ts fs (L (4097 + st.2.length) (st.1, st.2 ++ [(next, next)])).1 (4097 + st.2.length) S := by
  obtain ⟨_, e1, e2, e3⟩ := loop_in hA mn next st
  have hf := hH.2 _ _ (Nat.le_refl _) e1
  have hH2 : HasL ts fs (st.1, st.2 ++ [(next, next)]) (L (4097 + st.2.length) (st.1, st.2 ++ [(next, next)])).2 := ⟨fun i t hi e => hH.1 i t hi (by rw [e2]; exact e), fun i f hi e => by
    have hi : st.2.length + 1 ≤ i := by simpa using hi
    exact hH.2 i f (by omega) (by rw [e3 i (by omega)]; exact e)⟩
  have d1 := hM (4097 + st.2.length) (st.1, st.2 ++ [(next, next)]) (by rw [← e2]; exact hb) ts fs hH2
  exact ⟨does_loop hf d1, d1⟩
theorem endless_adds {L : Nat → St → Nat × St} (h : Adds L) (mn : Int) : Adds (endlessL L mn) := fun next st =>
  ((loop_adds h mn).inL next st).trans (copies_adds h (max mn 1 - 1).toNat _ _)
theorem endless_means {L : Nat → St → Nat × St} {S : List Int → Prop} (hA : Adds L) (hM : Means L S) {mn : Int} (h0 : 0 ≤ mn) : Means (endlessL L mn) (TimesS S mn (-1)) := by
  intro next st hb ts fs hH
  have a1 := (loop_adds hA mn).inL next st
  have a2 := (copies_adds hA (max mn 1 - 1).toNat).inL (loopL L mn next st).1 (loopL L mn next st).2
  have hb' : (copiesL L (max mn 1 - 1).toNat (loopL L mn next st).1 (loopL L mn next st).2).2.1.length ≤ 4096 := hb
  have hH' : HasL ts fs st (copiesL L (max mn 1 - 1).toNat (loopL L mn next st).1 (loopL L mn next st).2).2 := hH
  obtain ⟨d0, d1⟩ := loop_does hA hM mn next st (Nat.le_trans a2.len.1 hb') ts fs (hH'.fore a2)
  have d2 := copies_means hA hM (max mn 1 - 1).toNat (loopL L mn next st).1 (loopL L mn next st).2 hb' ts fs (hH'.rest a1)
  by_cases hm : mn = 0
  · have e : (loopL L mn next st).1 = 4097 + st.2.length := if_pos hm
    rw [e] at d2
    refine (Does.trans (ts := ts) (fs := fs) (show Does ts fs (endlessL L mn next st).1 _ _ by unfold endlessL; rw [e]; exact d2) d0).imp (fun w => ?_)
    constructor
    · rintro ⟨u, v, e, hu, k, hv⟩
      exact ⟨(max mn 1 - 1).toNat + k, by omega, .inl rfl, (pow_add _ _ _).1 ⟨u, v, e, hu, hv⟩⟩
    · rintro ⟨k, _, _, h⟩
      refine ⟨[], w, rfl, ?_, k, h⟩
      rw [show (max mn 1 - 1).toNat = 0 by omega]
      rfl
  · have e : (loopL L mn next st).1 = (L (4097 + st.2.length) (st.1, st.2 ++ [(next, next)])).1 := if_neg hm
    rw [e] at d2
    refine (Does.trans (ts := ts) (fs := fs) (show Does ts fs (endlessL L mn next st).1 _ _ by unfold endlessL; rw [e]; exact d2) (d1.trans d0)).imp (fun w => ?_)
    constructor
    · rintro ⟨u, v, e, hu, x, y, e2, hx, k, hy⟩
      exact ⟨(max mn 1 - 1).toNat + (k + 1), by omega, .inl rfl, (pow_add _ _ _).1 ⟨u, v, e, hu, x, y, e2, hx, hy⟩⟩
    · rintro ⟨k, hk, _, h⟩
      obtain ⟨u, v, e, hu, hv⟩ := (pow_add (max mn 1 - 1).toNat (k - (max mn 1 - 1).toNat - 1 + 1) w).2 (by rw [show (max mn 1 - 1).toNat + (k - (max mn 1 - 1).toNat - 1 + 1) = k by omega]; exact h)
      obtain ⟨x, y, e2, hx, hy⟩ := hv
      exact ⟨u, v, e, hu, x, y, e2, hx, _, hy⟩

end Ex
end Go.Proofs.YtfajoknacfjedaaGreatDoor
