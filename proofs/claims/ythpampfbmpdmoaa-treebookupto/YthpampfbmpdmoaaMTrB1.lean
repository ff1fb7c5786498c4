import Derived.Test.YthpampfbmpdmoaaTrPath
import Derived.Test.YthpampfbmpdmoaaTrTake
import Derived.Test.YthpampfbmpdmoaaTrSeq
import Derived.OwnWalk
import Derived.ArgAppend
namespace Go.Proofs.Ythpampfbmpdmoaa
open Go.RowKit
attribute [local go_sem] Oper.semAt_some
namespace Ex
namespace Tr

set_option linter.unusedSimpArgs false in
set_option maxRecDepth 100000 in
set_option maxHeartbeats 2000000 in
theorem pathS_is (C base : Nat) (wv : Value) (q0 : Nat × Nat × Nat) (ys : List (Nat × Nat × Nat)) (w : World) (hC : CurAt w C wv) (hO : SOwn w base wv (q0 :: ys)) (hl : ys.length ≤ 4194304) :
    Calls Try.prog 13 #[.pointer (some ⟨C, 0, none⟩)] w fun e w' => (∃ g c, e = .returned (.slice (some ⟨g, 0, none⟩) ys.length c) ∧ IOwn w' w.heap.size (.slice (some ⟨g, 0, none⟩) ys.length c) (ys.map fun q => q.2.2)) ∧ Kept w w' := by
  obtain ⟨g, cap, rfl, _, _, hcap, _⟩ := hO.cellsAt (i := 0) (q := q0) rfl
  obtain ⟨c0, _⟩ := hC.cells
  have hCl := hC.lt
  obtain ⟨m, hm⟩ : ∃ m, ys.length = m := ⟨_, rfl⟩
  rw [List.length_cons, hm] at c0 hcap
  have HM := hide1 hm
  have HO := hide1 hO
  have hmI : (m : Int) ≤ 4194304 := by omega
  have hcI : (m : Int) + 1 ≤ (cap : Int) := by omega
  obtain ⟨i0, hi, hz0, hz1, hz2⟩ := info_parts intt_info
  obtain ⟨wM, hmk, hoM, hgM⟩ := run_make_own (P := Try.prog) w w.heap.size 40 3 i0 _ 1 Try.underlying40 hi hz0 hz1 .i64 .i64 m (by rw [hz2]; omega) (by unfold maxLen; omega) (Nat.le_refl _)
  have hkM : Kept w wM := ⟨hgM.os, hgM.tape, hgM.output, hgM.size, fun k hk => hgM.block k hk (by simp)⟩
  have HI0 : Hid (PathI w ((ys.take 0).map fun q => q.2.2) (.slice (some ⟨w.heap.size, 0, none⟩) 0 m) wM) := ⟨hkM, hoM⟩
  have d0 := grown_cell hkM c0
  have HEL : Hid (∀ (i : Nat) (q : Nat × Nat × Nat), ys[i]? = some q → w.cell? ⟨g, (i + 1) * 3, none⟩ = some (.pointer (some ⟨q.1, 0, none⟩)) ∧ w.cell? ⟨g, (i + 1) * 3 + 1, none⟩ = some (.int .i64 (q.2.1 : Int)) ∧ w.cell? ⟨g, (i + 1) * 3 + 2, none⟩ = some (.int .i64 (q.2.2 : Int))) := fun i q hq => by
    obtain ⟨g', cap', he, _, _, _, r0, r1, r2⟩ := hO.cellsAt (i := i + 1) (q := q) (by simpa using hq)
    injection he with he _ _
    injection he with he
    injection he with he
    subst he
    exact ⟨r0, r1, r2⟩
  clear hC hO hm hi hz0 hz1 hz2 hoM hgM hkM
  go_enter Try.func13, Try.ntmps13
  by_cases hc1 : cap = 1
  · have hm0 : m = 0 := by omega
    subst hc1
    subst hm0
    have hys : ys = [] := List.length_eq_zero_iff.1 HM.out
    have HYS := hide1 hys
    clear hys hmI hcI hcap hl
    rw [show (((0 : Nat) : Int)) = 0 from rfl] at hmk
    go_wp2_with fail
    go_loopw [3, 19] (fun v3 vi wr => vi = .int .i64 0 ∧ v3 = .slice (some ⟨w.heap.size, 0, none⟩) 0 0 ∧ wr = wM) (fun _ _ _ => 0)
    case atStart => exact ⟨rfl, rfl, rfl⟩
    case round =>
      obtain ⟨rfl, rfl, hwr⟩ := hrel
      have hwr := hwr.symm
      subst hwr
      go_wp2_with fail
      go_ret
      have h := HI0.out
      rw [HYS.out] at h ⊢
      exact ⟨⟨_, _, rfl, h.2⟩, h.1⟩
  · have hc1I : ¬ ((cap : Int) = 1) := by omega
    go_wp2_with fail
    go_loopw [3, 19] (fun v3 vi wr => ∃ j : Nat, j ≤ m ∧ vi = .int .i64 (j : Int) ∧ (∃ g c, v3 = .slice (some ⟨g, 0, none⟩) j c) ∧ Hid (PathI w ((ys.take j).map fun q => q.2.2) v3 wr)) (fun _ vi _ => m - (intOf vi).toNat)
    case atStart => exact ⟨0, Nat.zero_le _, rfl, ⟨_, _, rfl⟩, HI0⟩
    case round =>
      obtain ⟨j, hj, rfl, ⟨va, vc, rfl⟩, HI⟩ := hrel
      clear HI0
      by_cases hlt : j < m
      · obtain ⟨q, hq⟩ : ∃ q, ys[j]? = some q := ⟨_, List.getElem?_eq_getElem (by have := HM.out; omega)⟩
        obtain ⟨r0, r1, r2⟩ := HEL.out j q hq
        have t0 := grown_cell HI.out.1 r0
        have t1 := grown_cell HI.out.1 r1
        have t2 := grown_cell HI.out.1 r2
        have e3 : (j + 1) * 3 = 3 + j * 3 := by omega
        rw [e3] at t0 t1 t2
        have hjI : (j : Int) < (m : Int) := by omega
        have HTK : Hid ((ys.take (j + 1)).map (fun q => q.2.2) = (ys.take j).map (fun q => q.2.2) ++ [q.2.2]) := by
          obtain ⟨h2, h3⟩ := List.getElem?_eq_some_iff.1 hq
          show _ = _
          rw [List.take_succ_eq_append_getElem h2, List.map_append, h3]
          rfl
        have HLN : Hid (((ys.take j).map (fun q => q.2.2)).length = j) := by show _ = _; rw [List.length_map, List.length_take, HM.out]; omega
        obtain ⟨qa, qb, qc⟩ := q
        dsimp only at t0 t1 t2 HTK
        clear r0 r1 r2 hq e3
        go_upto_region 5 with fail
        obtain ⟨wA, hwA⟩ : ∃ wA, wr.alloc (.cells #[.pointer (some ⟨qa, 0, none⟩), .int .i64 (qb : Int), .int .i64 (qc : Int)] 76) = wA := ⟨_, rfl⟩
        have hkA : Kept wr wA := by rw [← hwA]; exact (Kept.refl wr).alloc _ _
        have hbA : wA.heap[wr.heap.size]? = some (.cells #[.pointer (some ⟨qa, 0, none⟩), .int .i64 (qb : Int), .int .i64 (qc : Int)] 76 (0, 0)) := by rw [← hwA]; exact World.alloc_heap_new wr _
        have b2 : wA.cell? ⟨wr.heap.size, 2, none⟩ = some (.int .i64 (qc : Int)) := by simp [World.cell?, hbA]
        have HIA : Hid (PathI w ((ys.take j).map fun q => q.2.2) (.slice (some ⟨va, 0, none⟩) j vc) wA) := ⟨gtrans HI.out.1 hkA, owns_same HI.out.2 (fun d hd => hkA.2.2.2.2 d (HI.out.2.lt d hd).2)⟩
        rw [hwA]
        clear hwA hkA hbA t0 t1 t2 HI
        go_wp2_with (at_builtin; go_must (refine wpl_int rfl _ _ rfl _ w.heap.size _ _ j HLN.out (by rfl) (owns_same (w' := wA.alloc (.cells #[.int .i64 (qc : Int)] 3)) HIA.out.2 (fun d hd => heap_alloc_old wA _ (HIA.out.2.lt d hd).2)) wA.heap.size qc (by rfl) (World.alloc_heap_new wA _) (by rw [HLN.out]; omega) (by exact Nat.le_trans HIA.out.1.size (alloc_le wA _)) ?_; intro g9 c9 w9 ho9 hg9 hor9 hl9; have HO9 := hide1 ho9; have HG9 := hide1 hg9; clear ho9 hg9 hor9 hl9))
        go_roundw
        case rel =>
          refine ⟨j + 1, by omega, by go_num, ⟨_, _, rfl⟩, ?_, ?_⟩
          · have h1 := HIA.out.1
            have h2 := HG9.out
            refine ⟨h2.os.trans h1.1, h2.tape.trans h1.2.1, h2.output.trans h1.2.2.1, Nat.le_trans h1.size (Nat.le_trans (alloc_le wA _) h2.size), fun k hk => (h2.block k (by simp; have := h1.size; omega) (fun e => by have := (HIA.out.2.lt k e.symm).1; omega)).trans ((heap_alloc_old wA _ (Nat.lt_of_lt_of_le hk h1.size)).trans (h1.2.2.2.2 k hk))⟩
          · rw [HTK.out]
            exact HO9.out
        case measure => simp [intOf]; omega
      · have hjj : j = m := by omega
        subst hjj
        go_wp2_with fail
        go_ret
        have h := HI.out
        rw [List.take_of_length_le (by rw [HM.out]; exact Nat.le_refl _)] at h
        rw [HM.out]
        exact ⟨⟨_, _, rfl, h.2⟩, h.1⟩

end Tr
end Ex
end Go.Proofs.Ythpampfbmpdmoaa
namespace Go.Proofs.Ythpampfbmpdmoaa
open Go.RowKit
namespace Ex
namespace Tr

/-- Elements of equal width, as one row of cells. -/
theorem flat_get {sz : Nat} (hs : 0 < sz) : ∀ (E : List (List Value)), (∀ x ∈ E, x.length = sz) → ∀ k, E.flatten[k]? = (E[k / sz]?).bind (fun x => x[k % sz]?)
  | [], _, k => by simp
  | x :: E, h, k => by
    have hx := h x List.mem_cons_self
    rw [List.flatten_cons]
    by_cases hk : k < sz
    · rw [List.getElem?_append_left (by omega), Nat.div_eq_of_lt hk, Nat.mod_eq_of_lt hk]
      rfl
    · rw [List.getElem?_append_right (by omega), hx, flat_get hs E (fun y hy => h y (List.mem_cons_of_mem _ hy))]
      have e1 : k / sz = (k - sz) / sz + 1 := by
        rw [Nat.div_eq_sub_div hs (by omega)]
      have e2 : k % sz = (k - sz) % sz := by rw [Nat.mod_eq_sub_mod (by omega)]
      rw [e1, e2, List.getElem?_cons_succ]
theorem flat_len {sz : Nat} : ∀ (E : List (List Value)), (∀ x ∈ E, x.length = sz) → E.flatten.length = E.length * sz
  | [], _ => by simp
  | x :: E, h => by
    rw [List.flatten_cons, List.length_append, h x List.mem_cons_self, flat_len E (fun y hy => h y (List.mem_cons_of_mem _ hy)), List.length_cons, Nat.add_mul]
    omega
theorem flat_inj {sz : Nat} (hs : 0 < sz) : ∀ (E F : List (List Value)), (∀ x ∈ E, x.length = sz) → (∀ x ∈ F, x.length = sz) → E.flatten = F.flatten → E = F
  | [], [], _, _, _ => rfl
  | [], y :: F, _, hF, e => by
    have := congrArg List.length e
    rw [List.flatten_cons, List.length_append, hF y List.mem_cons_self] at this
    simp at this
    omega
  | x :: E, [], hE, _, e => by
    have := congrArg List.length e
    rw [List.flatten_cons, List.length_append, hE x List.mem_cons_self] at this
    simp at this
    omega
  | x :: E, y :: F, hE, hF, e => by
    rw [List.flatten_cons, List.flatten_cons] at e
    have h1 := List.append_inj e (by rw [hE x List.mem_cons_self, hF y List.mem_cons_self])
    rw [h1.1, flat_inj hs E F (fun z hz => hE z (List.mem_cons_of_mem _ hz)) (fun z hz => hF z (List.mem_cons_of_mem _ hz)) h1.2]
theorem flat_take {sz : Nat} : ∀ (E : List (List Value)) (n : Nat), (∀ x ∈ E, x.length = sz) → (E.take n).flatten = E.flatten.take (n * sz)
  | [], n, _ => by simp
  | x :: E, 0, _ => by simp
  | x :: E, n + 1, h => by
    have e : (n + 1) * sz = x.length + n * sz := by rw [h x List.mem_cons_self, Nat.add_mul]; omega
    rw [List.take_succ_cons, List.flatten_cons, List.flatten_cons, flat_take E n (fun y hy => h y (List.mem_cons_of_mem _ hy)), e, List.take_length_add_append]
theorem flat_of {sz : Nat} : ∀ (c : Nat) (l : List Value), l.length = c * sz → ∃ E : List (List Value), E.length = c ∧ (∀ x ∈ E, x.length = sz) ∧ E.flatten = l
  | 0, l, h => ⟨[], rfl, by simp, by have : l = [] := List.length_eq_zero_iff.1 (by omega); rw [this]; rfl⟩
  | c + 1, l, h => by
    rw [Nat.add_mul] at h
    obtain ⟨E, h1, h2, h3⟩ := flat_of (sz := sz) c (l.drop sz) (by rw [List.length_drop]; omega)
    refine ⟨l.take sz :: E, by simp [h1], ?_, by rw [List.flatten_cons, h3, List.take_append_drop]⟩
    intro x hx
    rcases List.mem_cons.1 hx with rfl | hx
    · rw [List.length_take]
      omega
    · exact h2 x hx
/-- A block of elements of the type T, sz cells each. -/
def RowE (T : TypeId) (sz : Nat) (w : World) (b : Nat) (E : List (List Value)) : Prop := ∃ cur, w.heap[b]? = some (.cells cur T (0, 0)) ∧ cur.toList = E.flatten ∧ ∀ x ∈ E, x.length = sz
section
variable {T : TypeId} {sz : Nat} {w w' : World} {b : Nat} {E E' : List (List Value)}
theorem RowE.lt (h : RowE T sz w b E) : b < w.heap.size := by
  obtain ⟨_, h, _⟩ := h
  exact (Array.getElem?_eq_some_iff.1 h).1
theorem RowE.same (h : RowE T sz w b E) (hh : w'.heap[b]? = w.heap[b]?) : RowE T sz w' b E := by
  obtain ⟨cur, h1, h2⟩ := h
  exact ⟨cur, hh.trans h1, h2⟩
theorem RowE.kept (h : RowE T sz w b E) (hk : Kept w w') : RowE T sz w' b E := h.same (hk.2.2.2.2 b h.lt)
theorem RowE.one (hs : 0 < sz) (h : RowE T sz w b E) (h' : RowE T sz w b E') : E = E' := by
  obtain ⟨cur, h1, h2, h3⟩ := h
  obtain ⟨cur', g1, g2, g3⟩ := h'
  rw [h1] at g1
  injection g1 with g1
  injection g1 with g1 _ _
  subst g1
  exact flat_inj hs E E' h3 g3 (h2.symm.trans g2)
theorem RowE.cell (hs : 0 < sz) (h : RowE T sz w b E) {s j : Nat} {x : List Value} {u : Value} (hx : E[s]? = some x) (hu : x[j]? = some u) : w.cell? ⟨b, s * sz + j, none⟩ = some u := by
  obtain ⟨cur, h1, h2, h3⟩ := h
  have hxl := h3 x (List.mem_of_getElem? hx)
  have hj : j < sz := by have := (List.getElem?_eq_some_iff.1 hu).1; omega
  have e : cur.toList[s * sz + j]? = some u := by
    rw [h2, flat_get hs E h3, show (s * sz + j) / sz = s by rw [Nat.mul_comm, Nat.mul_add_div hs, Nat.div_eq_of_lt hj, Nat.add_zero], show (s * sz + j) % sz = j by rw [Nat.mul_comm, Nat.mul_add_mod, Nat.mod_eq_of_lt hj], hx]
    exact hu
  simp only [World.cell?, h1]
  simpa using e
theorem RowE.frozen (h : RowE T sz w b E) (o : Nat) : w.frozen? ⟨b, o, none⟩ = false := by
  obtain ⟨cur, h1, _⟩ := h
  simp [World.frozen?, h1]
theorem RowE.cellAt (hs : 0 < sz) (h : RowE T sz w b E) {s j : Nat} (hl : s < E.length) (hj : j < sz) : ∃ u, w.cell? ⟨b, s * sz + j, none⟩ = some u := by
  obtain ⟨x, hx⟩ : ∃ x, E[s]? = some x := ⟨_, List.getElem?_eq_getElem hl⟩
  obtain ⟨u, hu⟩ : ∃ u, x[j]? = some u := by
    obtain ⟨_, _, _, h3⟩ := h
    exact ⟨_, List.getElem?_eq_getElem (by rw [h3 x (List.mem_of_getElem? hx)]; exact hj)⟩
  exact ⟨u, h.cell hs hx hu⟩
/-- One element is written over. -/
theorem RowE.put (hs : 0 < sz) (h : RowE T sz w b E) {s : Nat} {x : List Value} (hx : x.length = sz) {cur cur' : Array Value} (h1 : w.heap[b]? = some (.cells cur T (0, 0))) (h2 : w'.heap[b]? = some (.cells cur' T (0, 0))) (hl : s < E.length) (hc : ∀ k, cur'[k]? = if s * sz ≤ k ∧ k < s * sz + sz then x[k - s * sz]? else cur[k]?) : RowE T sz w' b (E.set s x) := by
  obtain ⟨cu, g1, g2, g3⟩ := h
  rw [h1] at g1
  injection g1 with g1
  injection g1 with g1 _ _
  subst g1
  have hm : ∀ y ∈ E.set s x, y.length = sz := by
    intro y hy
    rcases List.mem_or_eq_of_mem_set hy with hy | rfl
    · exact g3 y hy
    · exact hx
  refine ⟨cur', h2, ?_, hm⟩
  refine List.ext_getElem? fun k => ?_
  rw [flat_get hs _ hm, Array.getElem?_toList, hc k]
  have hdm := Nat.div_add_mod k sz
  have hml := Nat.mod_lt k hs
  by_cases hks : k / sz = s
  · have e : s * sz + k % sz = k := by rw [← hks, Nat.mul_comm]; exact hdm
    rw [hks, List.getElem?_set_self hl, if_pos ⟨by omega, by omega⟩]
    show _ = x[k % sz]?
    congr 1
    omega
  · rw [List.getElem?_set_ne (fun e => hks e.symm), if_neg (fun hh => hks ?_), ← flat_get hs E g3, ← g2, Array.getElem?_toList]
    have h4 : k = sz * s + (k - s * sz) := by rw [Nat.mul_comm]; omega
    rw [h4, Nat.mul_add_div hs, Nat.div_eq_of_lt (by omega), Nat.add_zero]
theorem RowE.put1 (h : RowE T 1 w b E) {s : Nat} (u : Value) (hl : s < E.length) : RowE T 1 (w.setCell ⟨b, s, none⟩ u) b (E.set s [u]) := by
  obtain ⟨cur, h1, h2, h3⟩ := h
  have hcs : cur.size = E.length := by
    have := congrArg List.length h2
    rw [flat_len E h3] at this
    simpa using this
  have hb := (Array.getElem?_eq_some_iff.1 h1).1
  have he := Option.some.inj ((Array.getElem?_eq_getElem hb).symm.trans h1)
  have h4 : (w.setCell ⟨b, s, none⟩ u).heap[b]? = some (.cells (cur.setIfInBounds s u) T (0, 0)) := by simp [World.setCell, Array.getElem_modify, hb, he]
  refine RowE.put (by decide) ⟨cur, h1, h2, h3⟩ rfl h1 h4 hl (fun k => ?_)
  by_cases hk : k = s
  · subst hk
    rw [if_pos (by omega)]
    simp [hcs, hl]
  · rw [if_neg (by omega), Array.getElem?_setIfInBounds_ne (fun e => hk e.symm)]
theorem owns_rowE {base n cap : Nat} {xs : List Value} (h : w.ownsRow base T sz (.slice (some ⟨b, 0, none⟩) n cap) n xs) : ∃ E, RowE T sz w b E ∧ E.length = cap ∧ (E.take n).flatten = xs ∧ n ≤ cap ∧ base ≤ b ∧ cap ≤ maxLen := by
  rcases h.2 with ⟨h, _⟩ | ⟨g', c', cur, e, h1, h2, h3, h4, h5, h6⟩
  · cases h
  · simp only [Value.slice.injEq, Option.some.injEq, Addr.mk.injEq] at e
    obtain ⟨⟨rfl, _⟩, _, rfl⟩ := e
    obtain ⟨E, e1, e2, e3⟩ := flat_of (sz := sz) cap cur.toList (by simpa using h5)
    refine ⟨E, ⟨cur, h2, e3.symm, e2⟩, e1, ?_, h3, h1, h4⟩
    rw [flat_take E n e2, e3]
    exact h6
theorem rowE_owns {base n : Nat} (h : RowE T sz w b E) (hb : base ≤ b) (hn : n ≤ E.length) (hm : E.length ≤ maxLen) : w.ownsRow base T sz (.slice (some ⟨b, 0, none⟩) n E.length) n (E.take n).flatten := by
  obtain ⟨cur, h1, h2, h3⟩ := h
  have hcs : cur.size = E.length * sz := by
    have := congrArg List.length h2
    rw [flat_len E h3] at this
    simpa using this
  refine ⟨?_, .inr ⟨b, E.length, cur, rfl, hb, h1, hn, hm, hcs, ?_⟩⟩
  · rw [flat_len _ (fun x hx => h3 x (List.mem_of_mem_take hx)), List.length_take, Nat.min_eq_left hn]
  · rw [flat_take E n h3, h2]
end
set_option maxRecDepth 100000 in
/-- One element is appended, in place or anew. -/
theorem wpl_growE {T TT : TypeId} {sz by_ : Nat} {z : Value} (hs : 0 < sz) (hinfo : (Try.prog.info? T).map (fun i => (i.zero, i.size, i.bytes)) = some (some z, sz, by_)) (hzs : z.cells.size = sz) (hby : by_ ≤ 4096) (hund : Try.prog.underlying TT = some (.slice T)) {ops : Array Oper} {rest : List Oper} {o : Oper} {a : Act} {Q : Exit → Act → World → Prop} (hgd : o.guard = none) (s x : Operand)
    (ho : o.op = .call { callee := .builtin .append, args := #[s, x], argTypes := #[TT, TT] }) (W : World) (gb k cg : Nat) (E : List (List Value)) (hsv : a.eval s = .slice (some ⟨gb, 0, none⟩) k cg) (hrow : RowE T sz W gb E) (hl : E.length = cg) (hk : k ≤ cg) (hm : cg ≤ maxLen)
    (y : List Value) (hy : y.length = sz) (hy1 : ∀ u ∈ y, u.oneCell' = true) (lb : Nat) (hx : a.eval x = .slice (some ⟨lb, 0, none⟩) 1 1) (hc : ∀ (j : Nat) u, y[j]? = some u → W.cell? ⟨lb, j, none⟩ = some u) (hkb : k + 1 ≤ 2000000000)
    (h : ∀ gb' cg' E' w', RowE T sz w' gb' E' → E'.length = cg' → cg' ≤ maxLen → k + 1 ≤ cg' → E'.take (k + 1) = E.take k ++ [y] → ((gb' = gb ∧ cg' = cg ∧ W.grownBy w' (some gb)) ∨ (W.heap.size ≤ gb' ∧ gb' < w'.heap.size ∧ Kept W w')) → wpList Try.prog ops Q rest (a.put o.dst (.slice (some ⟨gb', 0, none⟩) (k + 1) cg')) w') : wpList Try.prog ops Q (o :: rest) a W := by
  obtain ⟨i0, hi, hz0, hz1, hz2⟩ := info_parts hinfo
  subst hl
  have hown := rowE_owns (base := 0) (n := k) hrow (Nat.zero_le _) hk hm
  have hE : ∀ x ∈ E, x.length = sz := by obtain ⟨_, _, _, h⟩ := hrow; exact h
  have hnews : ∀ (j : Nat) u, y[j]? = some u → W.cell? ((⟨lb, 0, none⟩ : Addr).add j) = some u := fun j u hu => by
    rw [Addr.add_mid, Nat.zero_add]
    exact hc j u hu
  have fin : ∀ (E' : List (List Value)), (∀ x ∈ E', x.length = sz) → (E'.take (k + 1)).flatten = (E.take k).flatten ++ y → E'.take (k + 1) = E.take k ++ [y] := fun E' hE' e => by
    refine flat_inj hs _ _ (fun x hx => hE' x (List.mem_of_mem_take hx)) (fun x hx => ?_) (by rw [e]; simp)
    rcases List.mem_append.1 hx with hx | hx
    · exact hE x (List.mem_of_mem_take hx)
    · rw [List.mem_singleton.1 hx]
      exact hy
  have htl : (E.take k).flatten.length = k * sz := by rw [flat_len _ (fun x hx => hE x (List.mem_of_mem_take hx)), List.length_take, Nat.min_eq_left hk]
  by_cases hroom : k + 1 ≤ E.length
  · refine wpList_append_fits W hgd s x TT ho 0 T i0 sz hund hi hz1 gb k E.length (E.take k).flatten hsv hown ⟨lb, 0, none⟩ 1 1 y hx (by omega) hnews hy1 hroom ?_
    intro w' ho' hg'
    obtain ⟨E', h1, h2, h3, h4, _⟩ := owns_rowE ho'
    exact h gb E.length E' w' h1 h2 hm h4 (fin E' (by obtain ⟨_, _, _, h⟩ := h1; exact h) h3) (.inl ⟨rfl, rfl, hg'⟩)
  · refine wpList_append_grows W hgd s x TT ho T i0 z sz by_ hund hi hz0 hz1 hz2 hzs hs (some ⟨gb, 0, none⟩) k E.length (E.take k).flatten hsv (by intro h; cases h) htl (fun b hb j u hu => ?_) ⟨lb, 0, none⟩ 1 1 y hx (by omega) hnews hy1 (by omega) (by unfold maxLen; omega) ?_ ?_
    · injection hb with hb
      subst hb
      rw [Addr.add_mid, Nat.zero_add]
      obtain ⟨cur, c1, c2, _⟩ := hrow
      have hj : j < k * sz := by have := (List.getElem?_eq_some_iff.1 hu).1; omega
      rw [flat_take E k hE, List.getElem?_take, if_pos hj, ← c2] at hu
      simp only [World.cell?, c1]
      simpa using hu
    · exact Nat.le_trans (Nat.mul_le_mul hkb hby) (by decide)
    · intro v' w' ho' hg'
      rcases ho'.2 with ⟨_, h0⟩ | ⟨g', c', cur, rfl, hge, h2, h3, h4, h5, h6⟩
      · omega
      · obtain ⟨E', e1, e2, e3, e4, _, e6⟩ := owns_rowE ho'
        exact h g' c' E' w' e1 e2 h4 h3 (fin E' (by obtain ⟨_, _, _, h⟩ := e1; exact h) e3) (.inr ⟨hge, e1.lt, ⟨hg'.os, hg'.tape, hg'.output, hg'.size, fun k hk => hg'.block k hk (by simp)⟩⟩)

end Tr
end Ex
end Go.Proofs.Ythpampfbmpdmoaa
namespace Go.Proofs.Ythpampfbmpdmoaa
open Go.RowKit
namespace Ex
namespace Tr
namespace Bk

/-- What kind of lists: the elements' type, the lists' type, cells of an element, the marks, what is appended. -/
structure GrK where
  T : TypeId
  TT : TypeId
  sz : Nat
  pos : 0 < sz
  ne : ¬ T = TT
  mrk : Nat → Nat → List Value
  ap : Nat → Nat → List Value
theorem owns_base {w : World} {base size n : Nat} {e : TypeId} {v : Value} {xs : List Value} (h : w.ownsRow base e size v n xs) : ∀ k, v.ownBlock = some k → base ≤ k := fun k hk => (h.lt k hk).1
theorem owns_lt {w : World} {base size n : Nat} {e : TypeId} {v : Value} {xs : List Value} (h : w.ownsRow base e size v n xs) : ∀ g, v.ownBlock = some g → g < w.heap.size := fun g hg => (h.lt g hg).2
theorem snoc_some {α : Type} {l : List α} {a x : α} {i : Nat} (h : (l ++ [a])[i]? = some x) : l[i]? = some x ∨ (i = l.length ∧ x = a) := by
  by_cases hi : i < l.length
  · rw [List.getElem?_append_left hi] at h; exact .inl h
  · rw [List.getElem?_append_right (by omega)] at h
    have hil : i - l.length < 1 := by have := (List.getElem?_eq_some_iff.1 h).1; simpa using this
    obtain rfl : i = l.length := by omega
    simp at h
    exact .inr ⟨rfl, h.symm⟩
theorem owns_at {w : World} {base n k : Nat} {e : TypeId} {v p : Value} {ps : List Value} (h : w.ownsRow base e 1 v n ps) (hp : ps[k]? = some p) : ∃ g c, v = .slice (some ⟨g, 0, none⟩) n c ∧ k < n ∧ n ≤ c ∧ w.cell? ⟨g, k, none⟩ = some p := by
  have hl : ps.length = n := by simpa using h.1
  have hk : k < ps.length := (List.getElem?_eq_some_iff.1 hp).1
  rcases h.2 with ⟨_, rfl⟩ | ⟨g, c, cur, rfl, _, h2, h3, _, _, h6⟩
  · omega
  · refine ⟨g, c, rfl, by omega, h3, ?_⟩
    have e1 : (cur.toList.take (n * 1))[k]? = some p := by rw [h6]; exact hp
    rw [List.getElem?_take, if_pos (by omega)] at e1
    unfold World.cell?
    simp [h2]
    simpa using e1
/-- Lists that were handed out: block, length, capacity; C: what their rows hold. -/
abbrev Its : Type := List (Nat × Nat × Nat)
def Bag (K : GrK) (w : World) (its : Its) (C : Nat → List (List Value)) : Prop := ∀ (t b n c : Nat), its[t]? = some (b, n, c) → RowE K.T K.sz w b (C t) ∧ (C t).length = c ∧ n ≤ c ∧ n ≤ 4194304 ∧ c ≤ maxLen
def Lone (its : Its) : Prop := ∀ (t t' b n c n' c' : Nat), its[t]? = some (b, n, c) → its[t']? = some (b, n', c') → t = t'
def Heads (w : World) (g0 : Nat) (its : Its) : Prop := ∀ (t b n c : Nat), its[t]? = some (b, n, c) → w.cell? ⟨g0, t, none⟩ = some (.slice (some ⟨b, 0, none⟩) n c) ∧ b ≠ g0
/-- All but the lists' rows is as it was. -/
def KeptBag (its : Its) (w w' : World) : Prop :=
  w'.os = w.os ∧ w'.tape = w.tape ∧ w'.output = w.output ∧ w.heap.size ≤ w'.heap.size ∧ ∀ k, k < w.heap.size → (∀ (t b n c : Nat), its[t]? = some (b, n, c) → k ≠ b) → w'.heap[k]? = w.heap[k]?
theorem KeptBag.refl (its : Its) (w : World) : KeptBag its w w := ⟨rfl, rfl, rfl, Nat.le_refl _, fun _ _ _ => rfl⟩
theorem KeptBag.trans {its : Its} {a b c : World} (h1 : KeptBag its a b) (h2 : KeptBag its b c) : KeptBag its a c :=
  ⟨h2.1.trans h1.1, h2.2.1.trans h1.2.1, h2.2.2.1.trans h1.2.2.1, Nat.le_trans h1.2.2.2.1 h2.2.2.2.1, fun k hk hn => (h2.2.2.2.2 k (Nat.lt_of_lt_of_le hk h1.2.2.2.1) hn).trans (h1.2.2.2.2 k hk hn)⟩
theorem KeptBag.kept {its : Its} {w w' : World} (h : Kept w w') : KeptBag its w w' := ⟨h.1, h.2.1, h.2.2.1, h.2.2.2.1, fun k hk _ => h.2.2.2.2 k hk⟩

def upd (C : Nat → List (List Value)) (i : Nat) (l : List (List Value)) : Nat → List (List Value) := fun t => if t = i then l else C t
theorem upd_same (C : Nat → List (List Value)) (i : Nat) (l : List (List Value)) : upd C i l i = l := if_pos rfl
theorem upd_other {C : Nat → List (List Value)} {i t : Nat} {l : List (List Value)} (h : ¬ t = i) : upd C i l t = C t := if_neg h
/-- The lists are written as far as (i, j). -/
def Full (K : GrK) (its : Its) (C : Nat → List (List Value)) (i j : Nat) : Prop := ∀ (t b n c : Nat), its[t]? = some (b, n, c) → ∀ s, s < n → (t < i ∨ (t = i ∧ s < j)) → (C t)[s]? = some (K.mrk t s)

section
variable {K : GrK} {its : Its} {C : Nat → List (List Value)} {w w' : World} {g0 : Nat}
theorem Bag.kept (h : Bag K w its C) (hk : Kept w w') : Bag K w' its C := fun t b n c ht => ⟨(h t b n c ht).1.kept hk, (h t b n c ht).2⟩
theorem Heads.bag (h : Heads w g0 its) (hk : KeptBag its w w') : Heads w' g0 its := by
  intro t b n c ht
  obtain ⟨h1, h2⟩ := h t b n c ht
  refine ⟨?_, h2⟩
  rw [World.cell?_of_block (w := w) (a := ⟨g0, t, none⟩) (hk.2.2.2.2 g0 (World.block_lt_of_cell? w ⟨g0, t, none⟩ h1) (fun t' b' n' c' ht' e => (h t' b' n' c' ht').2 e.symm))]
  exact h1
theorem Bag.put (h : Bag K w its C) (hl : Lone its) {i b n c : Nat} (hi : its[i]? = some (b, n, c)) (hk : KeptBut b w w') {G : List (List Value)} (hr : RowE K.T K.sz w' b G) (hG : G.length = (C i).length) : Bag K w' its (upd C i G) := by
  intro t b' n' c' ht
  obtain ⟨h1, h2, h3, h4⟩ := h t b' n' c' ht
  by_cases hti : t = i
  · subst hti
    rw [hi] at ht
    simp only [Option.some.injEq, Prod.mk.injEq] at ht
    obtain ⟨rfl, rfl, rfl⟩ := ht
    rw [upd_same]
    exact ⟨hr, by rw [hG]; exact h2, h3, h4⟩
  · rw [upd_other hti]
    exact ⟨h1.same (hk.2.2.2.2 b' h1.lt (fun e => hti (hl t i b n' c' n c (e ▸ ht) hi))), h2, h3, h4⟩
theorem KeptBag.put {i b n c : Nat} (hi : its[i]? = some (b, n, c)) (hk : KeptBut b w w') : KeptBag its w w' :=
  ⟨hk.1, hk.2.1, hk.2.2.1, hk.2.2.2.1, fun k h hn => hk.2.2.2.2 k h (hn i b n c hi)⟩
theorem Full.put {i j b n c : Nat} (h : Full K its C i j) (hb : Bag K w its C) (hi : its[i]? = some (b, n, c)) (hj : j < n) : Full K its (upd C i ((C i).set j (K.mrk i j))) i (j + 1) := by
  intro t b' n' c' ht s hs hh
  by_cases hti : t = i
  · subst hti
    rw [hi] at ht
    simp only [Option.some.injEq, Prod.mk.injEq] at ht
    obtain ⟨rfl, rfl, rfl⟩ := ht
    rw [upd_same]
    obtain ⟨_, h2, h3, _⟩ := hb t b n c hi
    by_cases hsj : s = j
    · subst hsj
      rw [List.getElem?_set_self (by omega)]
    · rw [List.getElem?_set_ne (fun e => hsj e.symm)]
      exact h t b n c hi s hs (by omega)
  · rw [upd_other hti]
    exact h t b' n' c' ht s hs (by omega)
theorem Full.next {i : Nat} {n : Nat} (h : Full K its C i n) (hn : ∀ b n' c, its[i]? = some (b, n', c) → n' ≤ n) : Full K its C (i + 1) 0 := by
  intro t b n' c ht s hs hh
  refine h t b n' c ht s hs ?_
  by_cases hti : t = i
  · subst hti; have := hn b n' c ht; omega
  · omega
end

/-- A list that was grown from list u: its row holds the marks and 70 more. -/
def Grown1 (K : GrK) (u n j : Nat) (G : List (List Value)) : Prop := (∀ s, s < n → G[s]? = some (K.mrk u s)) ∧ ∀ s, s < j → G[n + s]? = some (K.ap u s)
/-- The grown lists so far: block and capacity; their rows. -/
def Mores (K : GrK) (its : Its) (m0 : Nat) (w : World) (its2 : List (Nat × Nat)) (E : Nat → List (List Value)) : Prop :=
  (∀ (u b' c' : Nat), its2[u]? = some (b', c') → RowE K.T K.sz w b' (E u) ∧ (E u).length = c' ∧ ∀ (b n c : Nat), its[u]? = some (b, n, c) → n + 70 ≤ c' ∧ Grown1 K u n 70 (E u) ∧ (b' = b ∨ m0 ≤ b')) ∧
  ∀ (u u' b' c' c'' : Nat), its2[u]? = some (b', c') → its2[u']? = some (b', c'') → u = u'
def moreV (its : Its) (its2 : List (Nat × Nat)) : List Value := (List.range its2.length).map fun u => .slice (some ⟨((its2[u]?).getD (0, 0)).1, 0, none⟩) (((its[u]?).getD (0, 0, 0)).2.1 + 70) ((its2[u]?).getD (0, 0)).2

theorem Grown1.snoc {K : GrK} {u n j : Nat} {G G' : List (List Value)} (h : Grown1 K u n j G) (hl : n + j ≤ G.length) (ht : G'.take (n + j + 1) = G.take (n + j) ++ [K.ap u j]) : Grown1 K u n (j + 1) G' := by
  have key : ∀ s, s < n + j + 1 → G'[s]? = (G.take (n + j) ++ [K.ap u j])[s]? := fun s hs => by rw [← ht, List.getElem?_take, if_pos hs]
  have hlen : (G.take (n + j)).length = n + j := by rw [List.length_take]; omega
  refine ⟨fun s hs => ?_, fun s hs => ?_⟩
  · rw [key s (by omega), List.getElem?_append_left (by omega), List.getElem?_take, if_pos (by omega)]
    exact h.1 s hs
  · rw [key (n + s) (by omega)]
    by_cases hsj : s = j
    · subst hsj
      rw [List.getElem?_append_right (by omega), hlen, Nat.sub_self]
      rfl
    · rw [List.getElem?_append_left (by omega), List.getElem?_take, if_pos (by omega)]
      exact h.2 s (by omega)

def St2 (K : GrK) (its : Its) (w0 : World) (N : Nat) (w : World) (u : Nat) (its2 : List (Nat × Nat)) (E C : Nat → List (List Value)) (aM : Option Addr) (cM : Nat) : Prop :=
  Bag K w its C ∧ Full K its C N 0 ∧ KeptBag its w0 w ∧ Mores K its w0.heap.size w its2 E ∧ its2.length = u ∧ w.ownsRow w0.heap.size K.TT 1 (.slice aM u cM) u (moreV its its2) ∧ ∀ (v b' c' : Nat), its2[v]? = some (b', c') → (Value.slice aM u cM).ownBlock ≠ some b'
/-- The list that is growing. -/
def Cur (K : GrK) (w0 : World) (its : Its) (its2 : List (Nat × Nat)) (aM : Option Addr) (u n j : Nat) (w : World) (gb cg : Nat) (G : List (List Value)) : Prop :=
  RowE K.T K.sz w gb G ∧ G.length = cg ∧ n + j ≤ cg ∧ cg ≤ maxLen ∧ Grown1 K u n j G ∧ ((∃ n' c', its[u]? = some (gb, n', c')) ∨ (w0.heap.size ≤ gb ∧ (∀ (v b' c' : Nat), its2[v]? = some (b', c') → b' ≠ gb) ∧ ∀ x, aM = some x → x.block ≠ gb))
theorem St2.kept {K : GrK} {its : Its} {w0 w w' : World} {N u cM : Nat} {its2 : List (Nat × Nat)} {E C : Nat → List (List Value)} {aM : Option Addr} (h : St2 K its w0 N w u its2 E C aM cM) (hk : Kept w w') : St2 K its w0 N w' u its2 E C aM cM := by
  obtain ⟨h1, h2, h3, ⟨h4, h4'⟩, h5, h6, h7⟩ := h
  exact ⟨h1.kept hk, h2, h3.trans (KeptBag.kept hk), ⟨fun v b' c' hv => ⟨(h4 v b' c' hv).1.kept hk, (h4 v b' c' hv).2⟩, h4'⟩, h5, owns_same h6 (fun g hg => hk.2.2.2.2 g (owns_lt h6 g hg)), h7⟩
/-- The lists lay there at the start. -/
def Old (its : Its) (w0 : World) : Prop := ∀ (v b n c : Nat), its[v]? = some (b, n, c) → b < w0.heap.size
theorem step2 {K : GrK} {its : Its} {w0 w W w6 : World} {N u n c b j cM gb cg gb' cg' : Nat} {its2 : List (Nat × Nat)} {E C : Nat → List (List Value)} {aM : Option Addr} {G G' : List (List Value)} (hS : St2 K its w0 N w u its2 E C aM cM) (hC : Cur K w0 its its2 aM u n j w gb cg G) (hit : its[u]? = some (b, n, c)) (hl : Lone its) (hold : Old its w0) (hk : Kept w W)
    (r1 : RowE K.T K.sz w6 gb' G') (r2 : G'.length = cg') (r3 : cg' ≤ maxLen) (r4 : n + j + 1 ≤ cg') (r5 : G'.take (n + j + 1) = G.take (n + j) ++ [K.ap u j]) (r6 : (gb' = gb ∧ cg' = cg ∧ W.grownBy w6 (some gb)) ∨ (W.heap.size ≤ gb' ∧ gb' < w6.heap.size ∧ Kept W w6)) :
    ∃ C', St2 K its w0 N w6 u its2 E C' aM cM ∧ Cur K w0 its its2 aM u n (j + 1) w6 gb' cg' G' := by
  obtain ⟨c1, c2, c3, c4, c5, c6⟩ := hC
  have hg1 : Grown1 K u n (j + 1) G' := c5.snoc (by omega) r5
  rcases r6 with ⟨rfl, rfl, hg⟩ | ⟨hn1, hn2, hk6⟩
  · have hsz := hk.size
    have hblk : ∀ k, k < w.heap.size → k ≠ gb' → w6.heap[k]? = w.heap[k]? := fun k hk1 hne => by rw [hg.block k (by omega) (fun e => hne (by injection e)), hk.2.2.2.2 k hk1]
    have hsz6 : w.heap.size ≤ w6.heap.size := Nat.le_trans hsz hg.size
    obtain ⟨h1, h2, h3, ⟨h4, h4'⟩, h5, h6, h7⟩ := hS
    have hlow : ∀ v bv nv cv, its[v]? = some (bv, nv, cv) → bv < w.heap.size := fun v bv nv cv hv => (h1 v bv nv cv hv).1.lt
    rcases c6 with ⟨n', c', hit'⟩ | ⟨d1, d2, d3⟩
    · rw [hit] at hit'
      simp only [Option.some.injEq, Prod.mk.injEq] at hit'
      obtain ⟨hbe, hne', hce'⟩ := hit'
      subst hbe hne' hce'
      have hGC : G = C u := c1.one K.pos (h1 u b n c hit).1
      have hcc : cg' = c := by rw [← c2, hGC]; exact (h1 u b n c hit).2.1
      have hbm : b < w0.heap.size := hold u b n c hit
      refine ⟨upd C u G', ⟨?_, ?_, ?_, ⟨?_, h4'⟩, h5, ?_, h7⟩, r1, r2, r4, r3, hg1, .inl ⟨n, c, hit⟩⟩
      · intro v bv nv cv hv
        by_cases hvu : v = u
        · subst hvu
          rw [hit] at hv
          simp only [Option.some.injEq, Prod.mk.injEq] at hv
          obtain ⟨rfl, rfl, rfl⟩ := hv
          rw [upd_same]
          exact ⟨r1, by rw [r2, hcc], (h1 v b n c hit).2.2⟩
        · rw [upd_other hvu]
          obtain ⟨g1, g2⟩ := h1 v bv nv cv hv
          exact ⟨g1.same (hblk bv g1.lt (fun e => hvu (hl v u b nv cv n c (e ▸ hv) hit))), g2⟩
      · intro v bv nv cv hv s hs hh
        by_cases hvu : v = u
        · subst hvu
          rw [hit] at hv
          simp only [Option.some.injEq, Prod.mk.injEq] at hv
          obtain ⟨rfl, rfl, rfl⟩ := hv
          rw [upd_same]
          exact hg1.1 s hs
        · rw [upd_other hvu]
          exact h2 v bv nv cv hv s hs hh
      · exact h3.trans ⟨by rw [hg.os, hk.1], by rw [hg.tape, hk.2.1], by rw [hg.output, hk.2.2.1], hsz6, fun k hk1 hn => hblk k hk1 (hn u b n c hit)⟩
      · intro v b' c' hv
        obtain ⟨g1, g2, g3⟩ := h4 v b' c' hv
        have hvl : v < u := by have := (List.getElem?_eq_some_iff.1 hv).1; omega
        refine ⟨g1.same (hblk b' g1.lt (fun e => ?_)), g2, g3⟩
        obtain ⟨⟨bv, nv, cv⟩, hiv⟩ : ∃ it, its[v]? = some it := ⟨_, List.getElem?_eq_getElem (by have := (List.getElem?_eq_some_iff.1 hit).1; omega)⟩
        rcases (g3 bv nv cv hiv).2.2 with e2 | e2
        · have hbv : bv = b := e2.symm.trans e
          rw [hbv] at hiv
          have := hl v u b nv cv n c hiv hit
          omega
        · omega
      · exact owns_same h6 (fun g hg' => hblk g (owns_lt h6 g hg') (fun e => by have := owns_base h6 g hg'; omega))
    · refine ⟨C, ⟨?_, h2, ?_, ⟨?_, h4'⟩, h5, ?_, h7⟩, r1, r2, r4, r3, hg1, .inr ⟨d1, d2, d3⟩⟩
      · intro v bv nv cv hv
        obtain ⟨g1, g2⟩ := h1 v bv nv cv hv
        refine ⟨g1.same (hblk bv g1.lt (fun e => ?_)), g2⟩
        have := hold v bv nv cv hv
        omega
      · exact ⟨by rw [hg.os, hk.1]; exact h3.1, by rw [hg.tape, hk.2.1]; exact h3.2.1, by rw [hg.output, hk.2.2.1]; exact h3.2.2.1, Nat.le_trans h3.2.2.2.1 hsz6, fun k hk1 hn => by rw [hblk k (by have := h3.2.2.2.1; omega) (by omega)]; exact h3.2.2.2.2 k hk1 hn⟩
      · intro v b' c' hv
        obtain ⟨g1, g2⟩ := h4 v b' c' hv
        exact ⟨g1.same (hblk b' g1.lt (d2 v b' c' hv)), g2⟩
      · refine owns_same h6 (fun g hg' => hblk g (owns_lt h6 g hg') (fun e => ?_))
        cases aM with
        | none => cases hg'
        | some x => simp only [Value.ownBlock, Option.some.injEq] at hg'; exact d3 x rfl (hg'.trans e)
  · have hkk := gtrans hk hk6
    have hs6 := hS.kept hkk
    refine ⟨C, hs6, r1, r2, r4, r3, hg1, .inr ⟨?_, fun v b' c' hv => ?_, fun x hx => ?_⟩⟩
    · have := hS.2.2.1.2.2.2.1; have := hk.size; omega
    · have := (hS.2.2.2.1.1 v b' c' hv).1.lt; have := hk.size; omega
    · subst hx
      have := owns_lt hS.2.2.2.2.2.1 x.block rfl
      have := hk.size
      omega

theorem moreV_snoc (its : Its) (its2 : List (Nat × Nat)) (b n c gb cg : Nat) (hit : its[its2.length]? = some (b, n, c)) : moreV its (its2 ++ [(gb, cg)]) = moreV its its2 ++ [.slice (some ⟨gb, 0, none⟩) (n + 70) cg] := by
  unfold moreV
  rw [List.length_append, List.length_singleton, List.range_succ, List.map_append]
  congr 1
  · apply List.map_congr_left
    intro v hv
    rw [List.getElem?_append_left (List.mem_range.1 hv)]
  · simp [hit]

theorem step3 {K : GrK} {its : Its} {w0 w W w7 : World} {N u n c b cM gb cg g7 c7 : Nat} {its2 : List (Nat × Nat)} {E C : Nat → List (List Value)} {aM : Option Addr} {G : List (List Value)} (hS : St2 K its w0 N w u its2 E C aM cM) (hC : Cur K w0 its its2 aM u n 70 w gb cg G) (hit : its[u]? = some (b, n, c)) (hl : Lone its) (hold : Old its w0) (hk : Kept w W)
    (ho : w7.ownsRow w0.heap.size K.TT 1 (.slice (some ⟨g7, 0, none⟩) (u + 1) c7) (u + 1) (moreV its its2 ++ [.slice (some ⟨gb, 0, none⟩) (n + 70) cg])) (hg : W.grownBy w7 (Value.slice aM u cM).ownBlock) (hgg : (Value.slice aM u cM).ownBlock = some g7 ∨ g7 = W.heap.size) :
    St2 K its w0 N w7 (u + 1) (its2 ++ [(gb, cg)]) (upd E u G) C (some ⟨g7, 0, none⟩) c7 := by
  obtain ⟨c1, c2, c3, c4, c5, c6⟩ := hC
  obtain ⟨h1, h2, h3, ⟨h4, h4'⟩, h5, h6, h7⟩ := hS
  have hsz := hk.size
  have hblk : ∀ k, k < w.heap.size → (Value.slice aM u cM).ownBlock ≠ some k → w7.heap[k]? = w.heap[k]? := fun k hk1 hne => by rw [hg.block k (by omega) (fun e => hne e.symm), hk.2.2.2.2 k hk1]
  have hrow : ∀ k, (Value.slice aM u cM).ownBlock = some k → w0.heap.size ≤ k ∧ k < w.heap.size := fun k hk1 => ⟨owns_base h6 k hk1, owns_lt h6 k hk1⟩
  have hw0 := h3.2.2.2.1
  have hgbrow : (Value.slice aM u cM).ownBlock ≠ some gb := by
    intro e
    rcases c6 with ⟨n', c', hit'⟩ | ⟨_, _, d3⟩
    · have := hold u gb n' c' hit'
      have := (hrow gb e).1
      omega
    · cases aM with
      | none => cases e
      | some x => simp only [Value.ownBlock, Option.some.injEq] at e; exact d3 x rfl e
  have hgbne : ∀ (v b' c' : Nat), its2[v]? = some (b', c') → b' ≠ gb := by
    intro v b' c' hv
    rcases c6 with ⟨n', c'', hit'⟩ | ⟨_, d2, _⟩
    · intro e
      have hvl : v < u := by have := (List.getElem?_eq_some_iff.1 hv).1; omega
      obtain ⟨⟨bv, nv, cv⟩, hiv⟩ : ∃ it, its[v]? = some it := ⟨_, List.getElem?_eq_getElem (by have := (List.getElem?_eq_some_iff.1 hit).1; omega)⟩
      rcases ((h4 v b' c' hv).2.2 bv nv cv hiv).2.2 with e2 | e2
      · have hbv : bv = gb := e2.symm.trans e
        rw [hbv] at hiv
        have := hl v u gb nv cv n' c'' hiv hit'
        omega
      · have := hold u gb n' c'' hit'
        omega
    · exact d2 v b' c' hv
  have hgbw : gb < w.heap.size := c1.lt
  refine ⟨fun v bv nv cv hv => ⟨(h1 v bv nv cv hv).1.same (hblk bv (h1 v bv nv cv hv).1.lt (fun e => by have := (hrow bv e).1; have := hold v bv nv cv hv; omega)), (h1 v bv nv cv hv).2⟩, h2, ⟨by rw [hg.os, hk.1]; exact h3.1, by rw [hg.tape, hk.2.1]; exact h3.2.1, by rw [hg.output, hk.2.2.1]; exact h3.2.2.1, Nat.le_trans hw0 (Nat.le_trans hsz hg.size), fun k hk1 hn => by rw [hblk k (by omega) (fun e => by have := (hrow k e).1; omega)]; exact h3.2.2.2.2 k hk1 hn⟩, ⟨?_, ?_⟩, by simp [h5], ?_, ?_⟩
  · intro v b' c' hv
    rcases snoc_some hv with hv | ⟨rfl, e⟩
    · have hvl : v < u := by have := (List.getElem?_eq_some_iff.1 hv).1; omega
      rw [upd_other (by omega)]
      obtain ⟨g1, g2, g3⟩ := h4 v b' c' hv
      exact ⟨g1.same (hblk b' g1.lt (h7 v b' c' hv)), g2, g3⟩
    · simp only [Prod.mk.injEq] at e
      obtain ⟨rfl, rfl⟩ := e
      rw [h5, upd_same]
      refine ⟨c1.same (hblk b' hgbw hgbrow), c2, fun bv nv cv hv' => ?_⟩
      rw [hit] at hv'
      simp only [Option.some.injEq, Prod.mk.injEq] at hv'
      obtain ⟨rfl, rfl, rfl⟩ := hv'
      refine ⟨c3, c5, ?_⟩
      rcases c6 with ⟨n', c'', hit'⟩ | ⟨d1, _, _⟩
      · rw [hit] at hit'
        simp only [Option.some.injEq, Prod.mk.injEq] at hit'
        exact .inl hit'.1.symm
      · exact .inr d1
  · intro v v' b' c' c'' hv hv'
    rcases snoc_some hv with hv | ⟨e1, e2⟩
    · rcases snoc_some hv' with hv' | ⟨e1, e2⟩
      · exact h4' v v' b' c' c'' hv hv'
      · simp only [Prod.mk.injEq] at e2
        exact absurd e2.1 (hgbne v b' c' hv)
    · simp only [Prod.mk.injEq] at e2
      rcases snoc_some hv' with hv' | ⟨e3, _⟩
      · exact absurd e2.1 (hgbne v' b' c'' hv')
      · omega
  · rw [moreV_snoc its its2 b n c gb cg (by rw [h5]; exact hit)]
    exact ho
  · intro v b' c' hv e
    simp only [Value.ownBlock, Option.some.injEq] at e
    have hbw : b' < w.heap.size ∧ (Value.slice aM u cM).ownBlock ≠ some b' := by
      rcases snoc_some hv with hv | ⟨_, e2⟩
      · exact ⟨(h4 v b' c' hv).1.lt, h7 v b' c' hv⟩
      · simp only [Prod.mk.injEq] at e2
        obtain ⟨rfl, _⟩ := e2
        exact ⟨hgbw, hgbrow⟩
    rcases hgg with e2 | e2
    · exact hbw.2 (by rw [e2, e])
    · omega

theorem St2.start {K : GrK} {its : Its} {w0 w : World} {N : Nat} {C : Nat → List (List Value)} (h1 : Bag K w its C) (h2 : Full K its C N 0) (h3 : KeptBag its w0 w) : St2 K its w0 N w 0 [] (fun _ => []) C none 0 := by
  refine ⟨h1, h2, h3, ⟨?_, ?_⟩, rfl, World.ownsRow_nil _ _ _ _, ?_⟩
  · intro v b' c' hv; simp at hv
  · intro v v' b' c' c'' hv; simp at hv
  · intro v b' c' hv; simp at hv
theorem phase3 {K : GrK} {its : Its} {w0 w : World} {N cM g0 : Nat} {its2 : List (Nat × Nat)} {E C : Nat → List (List Value)} {aM : Option Addr} (hS : St2 K its w0 N w N its2 E C aM cM) (hh : Heads w g0 its) (hN : its.length = N) (v : Nat) (hv : v < N) :
    ∃ b n c gb cg gM, n ≤ 4194304 ∧ n ≤ c ∧ n + 70 ≤ cg ∧ aM = some ⟨gM, 0, none⟩ ∧ w.cell? ⟨g0, v, none⟩ = some (.slice (some ⟨b, 0, none⟩) n c) ∧ w.cell? ⟨gM, v, none⟩ = some (.slice (some ⟨gb, 0, none⟩) (n + 70) cg) ∧
      (∀ s, s < n → ∀ j u, (K.mrk v s)[j]? = some u → w.cell? ⟨b, s * K.sz + j, none⟩ = some u ∧ w.cell? ⟨gb, s * K.sz + j, none⟩ = some u) ∧ ∀ s, s < 70 → ∀ j u, (K.ap v s)[j]? = some u → w.cell? ⟨gb, (n + s) * K.sz + j, none⟩ = some u := by
  obtain ⟨⟨b, n, c⟩, hit⟩ : ∃ it, its[v]? = some it := ⟨_, List.getElem?_eq_getElem (by omega)⟩
  obtain ⟨h1, h2, h3, ⟨h4, h4'⟩, h5, h6, h7⟩ := hS
  obtain ⟨⟨gb, cg⟩, hit2⟩ : ∃ it, its2[v]? = some it := ⟨_, List.getElem?_eq_getElem (by omega)⟩
  obtain ⟨r1, r2, r3, r4⟩ := h1 v b n c hit
  obtain ⟨e1, e2, e3⟩ := h4 v gb cg hit2
  obtain ⟨f1, f2, f3⟩ := e3 b n c hit
  have hm : (moreV its its2)[v]? = some (.slice (some ⟨gb, 0, none⟩) (n + 70) cg) := by
    unfold moreV; rw [List.getElem?_map, List.getElem?_range (by omega)]; simp [hit, hit2]
  obtain ⟨g', c', e, _, _, hc⟩ := owns_at h6 hm
  simp only [Value.slice.injEq] at e
  obtain ⟨rfl, _, _⟩ := e
  exact ⟨b, n, c, gb, cg, g', by omega, r3, f1, rfl, (hh v b n c hit).1, hc, fun s hs j u hu => ⟨r1.cell K.pos (h2 v b n c hit s hs (.inl hv)) hu, e1.cell K.pos (f2.1 s hs) hu⟩, fun s hs j u hu => e1.cell K.pos (f2.2 s hs) hu⟩

end Bk
end Tr
end Ex
end Go.Proofs.Ythpampfbmpdmoaa
