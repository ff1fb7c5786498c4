import Derived.Test.YtfajoknacfjedaaGreatDoorMExLy7
import Derived.Shelf.Abstract
import Derived.RangeFuncBox
namespace Go.Proofs.YtfajoknacfjedaaGreatDoor
open Go.RowKit Go.Shelf
attribute [local go_sem] Oper.semAt_some
namespace Ex

/-- A row, the last first. -/
def rowL {n : Nat} (F : PatN (n + 1) → Nat → St → Nat × St) (l : List (PatN (n + 1))) (next : Nat) (st : St) : Nat × St := l.foldl (fun s q => F q s.1 s.2) (next, st)
theorem row_grows {n : Nat} {F : PatN (n + 1) → Nat → St → Nat × St} : ∀ (l : List (PatN (n + 1))), (∀ q ∈ l, GrowsL (F q)) → GrowsL (rowL F l)
  | [], _, _, _ => ⟨Nat.le_refl _, Nat.le_refl _⟩
  | q :: l, h, next, st => by
    have h1 := h q (by simp) next st
    have h2 := row_grows l (fun q hq => h q (by simp [hq])) (F q next st).1 (F q next st).2
    exact ⟨Nat.le_trans h1.1 h2.1, Nat.le_trans h1.2 h2.2⟩
theorem row_append {n : Nat} (F : PatN (n + 1) → Nat → St → Nat × St) (a b : List (PatN (n + 1))) (next : Nat) (st : St) : rowL F (a ++ b) next st = rowL F b (rowL F a next st).1 (rowL F a next st).2 := by
  unfold rowL
  rw [List.foldl_append]
theorem XKept.put {X : Nat → Prop} {A : World} {l : Nat} (o' : Obj) (h : ∀ k, X k → k ≠ l) : XKept X A (A.putObj l o') := ⟨rfl, rfl, rfl, by simp, fun k hk => World.putObj_heap_other (h k hk)⟩
/-- While the row is laid: Y: what stays; X: what is none of the net's. -/
def RowI {n : Nat} (X Y : Nat → Prop) (nb ws : Nat) (F : PatN (n + 1) → Nat → St → Nat × St) (next : Nat) (st : St) (W0 : World) (pre : List (Nat × PatN (n + 1) × Value)) (W : World) : Prop :=
  NetL X W nb (rowL F (pre.map (fun x => x.2.1)) next st).2.1 (rowL F (pre.map (fun x => x.2.1)) next st).2.2 ∧ XKept Y W0 W ∧ W.heap[ws + 2]? = some (.cells #[.int .i64 ((rowL F (pre.map (fun x => x.2.1)) next st).1 : Int)] 3 (0, 0))

set_option linter.unusedSimpArgs false in
set_option maxRecDepth 100000 in
set_option maxHeartbeats 4000000 in
theorem lay_row (n : Nat) (p : PatN (n + 1 + 1)) (hkd : kind p = 2) (hne : kids p ≠ []) (F : PatN (n + 1) → Nat → St → Nat × St) (hF : ∀ r ∈ kids p, LayC n r (F r)) (hG : ∀ r ∈ kids p, GrowsL (F r)) : LayC (n + 1) p (rowL F (kids p).reverse) := by
  intro X nb next st vk w h hk hX h1 h2
  have HL := hide1 hF
  have HGR := hide1 hG
  have HN := hide1 h
  have HX := hide1 hX
  have HKP := hide1 hk
  have HKD := hide1 hkd
  have hnb := h.lt
  have H1 := hide1 h1
  have H2 := hide1 h2
  have HNE := hide1 hne
  obtain ⟨a2, cap2, e2', hc2, hl2, h7⟩ := hk
  subst e2'
  rcases h7 with h7 | ⟨c, o, rfl, hXc, h7⟩
  · exact absurd h7 hne
  have HXC := hide1 hXc
  have H7 := hide1 h7
  have HC2 := hide1 hc2
  have HL2 := hide1 hl2
  rw [valOf_eq, hkd]
  obtain ⟨len, hlen⟩ : ∃ x, (kids p).length = x := ⟨_, rfl⟩
  rw [hlen]
  have HLEN := hide1 hlen
  clear hX hF h hG h1 h2 hkd h7 hXc hne hc2 hl2 hlen
  refine (callsIn_wide (n := 4)).1 ?_
  refine callsIn_of_wp_marks Tryz.func62 rfl trivial ?_ rfl
  simp only [Tryz.ntmps62, List.size_toArray, List.length_cons, List.length_nil, Nat.reduceAdd, Nat.reduceSub, Array.replicate_succ, Array.replicate_zero, List.push_toArray, List.append_toArray, List.nil_append, List.cons_append]
  gi_wp2_with (refine ⟨trivial, ?_⟩; gi_at_call 81; refine (callsIn_wide.2 (back_is _ _ _ _)).mono ?_; rintro e w9 ⟨rfl, rfl⟩)
  obtain ⟨W0, hW0⟩ : ∃ W0, (((w.alloc (Obj.cells #[Value.pointer (some ⟨nb, 0, none⟩)] 73)).alloc (Obj.cells #[Value.int IntKind.i64 2, Value.int IntKind.i64 (from_ p), Value.int IntKind.i64 (to_ p), Value.int IntKind.i64 (min_ p), Value.int IntKind.i64 (max_ p), Value.slice (some ⟨c, o, none⟩) len cap2] 24)).alloc (Obj.cells #[Value.int IntKind.i64 (next : Int)] 3)).alloc (Obj.cells #[Value.slice (some ⟨c, o, none⟩) len cap2] 22) = W0 := ⟨_, rfl⟩
  have hk0 : Kept w W0 := by rw [← hW0]; exact ((((Kept.refl w).alloc _ _).alloc _ _).alloc _ _).alloc _ _
  have hs0 : w.heap.size + 4 = W0.heap.size := by rw [← hW0]; simp
  have b0 : W0.cell? ⟨w.heap.size, 0, none⟩ = some (.pointer (some ⟨nb, 0, none⟩)) := by rw [← hW0]; exact cell_of_row _ _ _ _ _ _ ((Below.heap_alloc _ _ _ (by simp; omega)).trans ((Below.heap_alloc _ _ _ (by simp; omega)).trans ((Below.heap_alloc _ _ _ (by simp)).trans (World.alloc_heap_new w _))))
  have b2 : W0.heap[w.heap.size + 2]? = some (.cells #[.int .i64 (next : Int)] 3 (0, 0)) := by
    rw [← hW0]
    refine (Below.heap_alloc _ _ _ (by simp)).trans ?_
    have := World.alloc_heap_new ((w.alloc (Obj.cells #[Value.pointer (some ⟨nb, 0, none⟩)] 73)).alloc (Obj.cells #[Value.int IntKind.i64 2, Value.int IntKind.i64 (from_ p), Value.int IntKind.i64 (to_ p), Value.int IntKind.i64 (min_ p), Value.int IntKind.i64 (max_ p), Value.slice (some ⟨c, o, none⟩) len cap2] 24)) (Obj.cells #[Value.int IntKind.i64 (next : Int)] 3)
    rwa [World.size_alloc, World.size_alloc] at this
  have b3 : W0.cell? ⟨w.heap.size + 3, 0, none⟩ = some (.slice (some ⟨c, o, none⟩) len cap2) := by
    rw [← hW0]
    have := World.alloc_heap_new (((w.alloc (Obj.cells #[Value.pointer (some ⟨nb, 0, none⟩)] 73)).alloc (Obj.cells #[Value.int IntKind.i64 2, Value.int IntKind.i64 (from_ p), Value.int IntKind.i64 (to_ p), Value.int IntKind.i64 (min_ p), Value.int IntKind.i64 (max_ p), Value.slice (some ⟨c, o, none⟩) len cap2] 24)).alloc (Obj.cells #[Value.int IntKind.i64 (next : Int)] 3)) (Obj.cells #[Value.slice (some ⟨c, o, none⟩) len cap2] 22)
    rw [World.size_alloc, World.size_alloc, World.size_alloc] at this
    exact cell_of_row _ _ _ _ _ _ this
  rw [hW0]
  clear hW0
  have hel : ∀ i, ∃ e : PatN (n + 1) × Value, i < len → (kids p)[i]? = some e.1 ∧ (w.cell? ⟨c, o + i * 6, none⟩ = some (.int .i64 (kind e.1)) ∧ w.cell? ⟨c, o + i * 6 + 1, none⟩ = some (.int .i64 (from_ e.1)) ∧ w.cell? ⟨c, o + i * 6 + 2, none⟩ = some (.int .i64 (to_ e.1)) ∧ w.cell? ⟨c, o + i * 6 + 3, none⟩ = some (.int .i64 (min_ e.1)) ∧ w.cell? ⟨c, o + i * 6 + 4, none⟩ = some (.int .i64 (max_ e.1)) ∧ w.cell? ⟨c, o + i * 6 + 5, none⟩ = some e.2) ∧ KidsAt X w n (kids e.1) e.2 := by
    intro i
    by_cases hi : i < (kids p).length
    · obtain ⟨v, y0, y1, y2, y3, y4, y5, y6⟩ := H7.out i _ (List.getElem?_eq_getElem hi)
      exact ⟨((kids p)[i], v), fun _ => ⟨List.getElem?_eq_getElem hi, ⟨y0, y1, y2, y3, y4, y5⟩, y6⟩⟩
    · have hpos : 0 < (kids p).length := List.length_pos_iff.2 HNE.out
      exact ⟨((kids p)[0], .int .i64 0), fun h => absurd h (by have := HLEN.out; omega)⟩
  obtain ⟨el, hel⟩ := Classical.axiomOfChoice hel
  have HEL := hide1 hel
  have hmap : (dn (fun i => (i, el i)) len 0).map (fun x => x.2.1) = (kids p).reverse := by
    unfold dn
    rw [List.map_reverse, List.drop_zero, List.map_map]
    congr 1
    apply List.ext_getElem?
    intro i
    rw [List.getElem?_map]
    by_cases hi : i < len
    · rw [List.getElem?_range hi, (hel i hi).1]; rfl
    · rw [List.getElem?_eq_none (by simpa using hi), List.getElem?_eq_none (by have := HLEN.out; omega)]; rfl
  have hmem : ∀ x ∈ dn (fun i => (i, el i)) len 0, ∃ i, i < len ∧ x = (i, el i) := by
    intro x hx
    unfold dn at hx
    simp only [List.drop_zero, List.mem_reverse, List.mem_map, List.mem_range] at hx
    obtain ⟨i, h1, h2⟩ := hx
    exact ⟨i, h1, h2.symm⟩
  have HMAP := hide1 hmap
  have HMEM := hide1 hmem
  have HK0 := hide1 hk0
  have HS0 := hide1 hs0
  have HX4 : Hid (∀ d, (fun d => X d ∨ (w.heap.size ≤ d ∧ d < w.heap.size + 4)) d → d ≠ nb) := fun d hd => by rcases hd with hd | hd; exact (HX.out d hd).2; omega
  have HNX : Hid (NetL (fun d => X d ∨ (w.heap.size ≤ d ∧ d < w.heap.size + 4)) W0 nb st.1 st.2) := (HN.out.keep hk0).sub (fun d hd => by rcases hd with hd | hd; exact .inl hd; exact .inr (by omega))
  have HY : Hid (∀ d, (fun d => X d ∨ d = w.heap.size ∨ d = w.heap.size + 1 ∨ d = w.heap.size + 3) d → d < W0.heap.size) := fun d hd => by rcases hd with hd | hd; (have := (HX.out d hd).1; omega); omega
  clear hel hmap hmem
  refine range_box rfl (by omega) (gf := 99) (lb := #[.pointer (some ⟨w.heap.size + 3, 0, none⟩)]) rfl trivial (enters_of Tryz.func99 (by kernel_rfl) rfl)
    (back_seq _ (by omega) n (fun d => X d ∨ d = w.heap.size ∨ d = w.heap.size + 1 ∨ d = w.heap.size + 3) (w.heap.size + 3) c o cap2 len el (by have := HL2.out; have := HLEN.out; omega) (.inr (.inr (.inr rfl))) (.inl HXC.out) W0 b3 (fun i hi => by
      obtain ⟨_, ⟨y0, y1, y2, y3, y4, y5⟩, y6⟩ := HEL.out i hi
      obtain ⟨a6, c6, h6⟩ := y6.form
      exact ⟨grown_cell hk0 y0, grown_cell hk0 y1, grown_cell hk0 y2, grown_cell hk0 y3, grown_cell hk0 y4, grown_cell hk0 y5, a6, _, c6, h6⟩))
    XK.trans ?kb ?kk (fun _ => rfl)
    (RowI (fun d => X d ∨ (w.heap.size ≤ d ∧ d < w.heap.size + 4)) (fun d => X d ∨ d = w.heap.size ∨ d = w.heap.size + 1 ∨ d = w.heap.size + 3) nb w.heap.size F next st W0) ?gi ?gp ⟨HNX.out, ⟨rfl, rfl, rfl, Nat.le_refl _, fun _ _ => rfl⟩, b2⟩
    (fun x => .cells #[.int .i64 (kind x.2.1), .int .i64 (from_ x.2.1), .int .i64 (to_ x.2.1), .int .i64 (min_ x.2.1), .int .i64 (max_ x.2.1), x.2.2] 24)
    (fun x m => { tmps := #[Value.pointer (some ⟨nb, 0, none⟩), Value.agg #[Value.int IntKind.i64 2, Value.int IntKind.i64 (from_ p), Value.int IntKind.i64 (to_ p), Value.int IntKind.i64 (min_ p), Value.int IntKind.i64 (max_ p), Value.slice (some ⟨c, o, none⟩) len cap2], Value.int IntKind.i64 (next : Int), Value.pointer (some ⟨w.heap.size, 0, none⟩), Value.pointer (some ⟨w.heap.size + 1, 0, none⟩), Value.pointer (some ⟨w.heap.size + 1 + 1, 0, none⟩), Value.int IntKind.i64 0, undef, undef, undef, undef, Value.pointer (some ⟨m, 0, none⟩), Value.pointer (some ⟨w.heap.size + 1, 0, none⟩), Value.int IntKind.i64 2, Value.bool false, Value.bool false, undef, undef, undef, undef, undef, undef, undef, undef, undef, undef, undef, undef, undef, undef, undef, undef, undef, undef, undef, undef, undef, undef, undef, Value.bool false, Value.bool false, undef, undef, undef, undef, undef, undef, undef, undef, undef, undef, undef, undef, undef, undef, undef, undef, undef, undef, undef, undef, undef, undef, undef, undef, Value.bool false, Value.bool false, undef, undef, undef, undef, Value.pointer (some ⟨w.heap.size + 1, 5, none⟩), Value.slice (some ⟨c, o, none⟩) len cap2, Value.func (Fn.func 99) #[] #[Value.pointer (some ⟨w.heap.size + 1 + 1 + 1, 0, none⟩)], Value.int IntKind.i64 (x.1 : Int), valOf x.2.1 x.2.2, undef, undef, undef, undef, undef], defers := [] })
    ?assign ?body ?done
  case kb => exact fun W l o o' hl hlo _ => ⟨by simp, fun k hk => World.putObj_heap_other (by have := HY.out k hk; omega)⟩
  case kk => exact fun W W' hW hkk => ⟨hkk.2.2.2.1, fun k hk => hkk.2.2.2.2 k (by have := HY.out k hk; omega)⟩
  case gi =>
    rintro s A A' ⟨h1, h2, h3⟩ hkk
    exact ⟨(h1.keep hkk).sub (fun d hd => .inl hd), h2.trans (hkk.x (fun d hd => by have := HY.out d hd; have := h2.2.2.2.1; omega)), (hkk.2.2.2.2 _ (Array.getElem?_eq_some_iff.1 h3).1).trans h3⟩
  case gp =>
    rintro s A l o o' ⟨h1, h2, h3⟩ hl hlo ho
    exact ⟨h1.put o' HX4.out hlo ho, h2.trans ⟨rfl, rfl, rfl, by simp, fun k hk => World.putObj_heap_other (by have := HY.out k hk; omega)⟩, (World.putObj_heap_other (by have := HS0.out; omega)).trans h3⟩
  case assign =>
    intro l x W K hx hK
    obtain ⟨i, hi, rfl⟩ := HMEM.out x hx
    obtain ⟨_, _, y6⟩ := HEL.out i hi
    obtain ⟨a6, c6, h6⟩ := y6.form
    dsimp only at hK ⊢
    rw [valOf_eq, h6] at hK ⊢
    have HK := hide1 hK
    clear hK y6
    gi_wp2
    exact HK.out
  case body =>
    rintro l pre x W m hIp hpre hm hlm _
    obtain ⟨i, hi, rfl⟩ := HMEM.out x (hpre.subset (by simp))
    obtain ⟨y0, _, y6⟩ := HEL.out i hi
    obtain ⟨h1, h2, h3⟩ := hIp
    obtain ⟨⟨nx, s⟩, hr⟩ : ∃ r, rowL F (pre.map (fun x => x.2.1)) next st = r := ⟨_, rfl⟩
    rw [hr] at h1 h3
    have hx : rowL F ((pre ++ [(i, el i)]).map (fun x => x.2.1)) next st = F (el i).1 nx s := by
      rw [List.map_append, row_append, hr]
      rfl
    have hbnd : (F (el i).1 nx s).2.1.length ≤ 300000 ∧ (F (el i).1 nx s).2.2.length ≤ 300000 := by
      obtain ⟨t, ht⟩ := hpre
      have e := HMAP.out
      rw [← ht, List.map_append] at e
      have hg := row_grows (F := F) (t.map (fun x => x.2.1)) (fun q hq => HGR.out q (by rw [← List.mem_reverse, ← e]; exact List.mem_append_right _ hq)) (F (el i).1 nx s).1 (F (el i).1 nx s).2
      have k1 := H1.out
      have k2 := H2.out
      rw [← e, row_append, hx] at k1 k2
      exact ⟨Nat.le_trans hg.1 k1, Nat.le_trans hg.2 k2⟩
    have HLx := hide1 (HL.out (el i).1 (List.mem_of_getElem? y0))
    have hmo := h1.more
    have HNB : Hid (NetL (fun d => (fun d => X d ∨ (w.heap.size ≤ d ∧ d < w.heap.size + 4)) d ∨ ∃ o, W.heap[d]? = some o ∧ o.isCells = false) W nb s.1 s.2) := hmo.1
    have HXB : Hid (∀ d, (fun d => (fun d => X d ∨ (w.heap.size ≤ d ∧ d < w.heap.size + 4)) d ∨ ∃ o, W.heap[d]? = some o ∧ o.isCells = false) d → d < W.heap.size ∧ d ≠ nb) := fun d hd => by
      rcases hd with hd | ⟨o2, e1, e2⟩
      · have h4 := h2.2.2.2.1
        have h5 := HS0.out
        refine ⟨?_, HX4.out d hd⟩
        rcases hd with hd | hd
        · have := (HX.out d hd).1; omega
        · omega
      · exact ⟨(Array.getElem?_eq_some_iff.1 e1).1, hmo.2 d o2 e1 e2⟩
    have HKB : Hid (KidsAt (fun d => (fun d => X d ∨ (w.heap.size ≤ d ∧ d < w.heap.size + 4)) d ∨ ∃ o, W.heap[d]? = some o ∧ o.isCells = false) W n (kids (el i).1) (el i).2) := KidsAt.mono (w := w) (S := X) (fun d o v hd hcc => h2.cell (.inl hd) (grown_cell HK0.out hcc)) (fun d hd => .inl (.inl hd)) _ _ _ y6
    obtain ⟨a6, c6, h6⟩ := y6.form
    have c0 := h2.cell (.inr (.inl rfl)) b0
    have c2 : W.cell? ⟨w.heap.size + 2, 0, none⟩ = some (.int .i64 (nx : Int)) := cell_of_row _ _ _ _ _ _ h3
    dsimp only at hm ⊢
    rw [h6] at hm HKB
    rw [valOf_eq, h6]
    have m0 : W.cell? ⟨m, 0, none⟩ = some (.int .i64 (kind (el i).1)) := cell_of_row _ _ _ _ _ _ hm
    have m1 : W.cell? ⟨m, 1, none⟩ = some (.int .i64 (from_ (el i).1)) := cell_of_row _ _ _ _ _ _ hm
    have m2 : W.cell? ⟨m, 2, none⟩ = some (.int .i64 (to_ (el i).1)) := cell_of_row _ _ _ _ _ _ hm
    have m3 : W.cell? ⟨m, 3, none⟩ = some (.int .i64 (min_ (el i).1)) := cell_of_row _ _ _ _ _ _ hm
    have m4 : W.cell? ⟨m, 4, none⟩ = some (.int .i64 (max_ (el i).1)) := cell_of_row _ _ _ _ _ _ hm
    have m5 : W.cell? ⟨m, 5, none⟩ = some (.slice a6 (kids (el i).1).length c6) := cell_of_row _ _ _ _ _ _ hm
    have HI2 := hide1 h2
    have HI3 := hide1 h3
    have HBD := hide1 hbnd
    have HXX := hide1 hx
    have hsW : w.heap.size + 4 ≤ W.heap.size := by have := h2.2.2.2.1; have := HS0.out; omega
    clear h1 h2 h3 hbnd hx y0 y6 hm hmo hr b0 b2 b3 hk0
    gi_wp2
    refine ⟨trivial, ?_⟩
    refine (CallsIn.inRound l (callsIn_wide.2 (LayC.at HLx.out (fun d => (fun d => X d ∨ (w.heap.size ≤ d ∧ d < w.heap.size + 4)) d ∨ ∃ o, W.heap[d]? = some o ∧ o.isCells = false) nb nx _ s _ W rfl HNB.out HKB.out HXB.out HBD.out.1 HBD.out.2))).mono ?_
    rintro e w7 ⟨rfl, hn7, hk7⟩
    have HN7 := hide1 hn7
    have HK7 := hide1 hk7
    have hb7 := (hk7.2.2.2.2 (w.heap.size + 2) (.inl (.inr (by omega)))).trans HI3.out
    have HB7 := hide1 hb7
    have d2 : w7.cell? ⟨w.heap.size + 2, 0, none⟩ = some (.int .i64 (nx : Int)) := cell_of_row _ _ _ _ _ _ hb7
    have z2 : w7.frozen? ⟨w.heap.size + 2, 0, none⟩ = false := by simp [World.frozen?, hb7]
    clear hn7 hk7 hb7
    gi_wp2
    have hset : ∀ k v, k ≠ w.heap.size + 2 → (w7.setCell ⟨w.heap.size + 2, 0, none⟩ v).heap[k]? = w7.heap[k]? := fun k v hk => Below.heap_setCell _ _ _ _ hk
    have hsz : ∀ v, (w7.setCell ⟨w.heap.size + 2, 0, none⟩ v).heap.size = w7.heap.size := fun v => by simp [World.setCell]
    have h7s := HK7.out.2.2.2.1
    have hYX : ∀ d, (X d ∨ d = w.heap.size ∨ d = w.heap.size + 1 ∨ d = w.heap.size + 3) → (X d ∨ (w.heap.size ≤ d ∧ d < w.heap.size + 4)) ∧ d ≠ w.heap.size + 2 := fun d hd => by
      rcases hd with hd | hd
      · exact ⟨.inl hd, by have := (HX.out d hd).1; omega⟩
      · exact ⟨.inr (by omega), by omega⟩
    refine ⟨⟨by rw [hsz]; exact h7s, fun k o2 hB hk ho => (hset k _ (by have := HS0.out; omega)).trans ((HK7.out.2.2.2.2 k (.inr ⟨o2, hk, ho⟩)).trans hk)⟩, ⟨by rw [hsz]; exact h7s, fun k hk => (hset k _ (hYX k hk).2).trans (HK7.out.2.2.2.2 k (.inl (hYX k hk).1))⟩, ?_⟩
    unfold RowI
    rw [HXX.out]
    refine ⟨(HN7.out.sub (fun d hd => .inl hd)).other HX4.out (fun k hk => hset k _ (fun e => hk (.inr (by omega)))), HI2.out.trans ((HK7.out.sub (fun d hd => .inl (hYX d hd).1)).trans ⟨rfl, rfl, rfl, by rw [hsz]; exact Nat.le_refl _, fun k hk => hset k _ (hYX k hk).2⟩), ?_⟩
    exact Boxed.set (W := w7) (B := w.heap.size + 2) (t := 3) _ HB7.out
  case done =>
    rintro D W hD ⟨h1, h2, h3⟩ hDk
    rw [HMAP.out] at h1 h3
    have hc3 : W.cell? ⟨w.heap.size + 2, 0, none⟩ = some (.int .i64 ((rowL F (kids p).reverse next st).1 : Int)) := cell_of_row _ _ _ _ _ _ h3
    have HA := hide1 h1
    have HB := hide1 h2
    clear h1 h2 h3
    gi_wp2
    refine ⟨by simp, .inl ⟨_, _, rfl, run_takeDeferred hDk, ?_⟩⟩
    exact ⟨_, results_tmp rfl _ _ _, rfl, (HA.out.put _ HX4.out hDk rfl).sub (fun d hd => .inl hd), (HK0.out.x (fun d hd => (HX.out d hd).1)).trans ((HB.out.trans (XKept.put _ (fun k hk => by have := HY.out k hk; omega))).sub (fun d hd => .inl hd))⟩

end Ex
end Go.Proofs.YtfajoknacfjedaaGreatDoor
namespace Go.Proofs.YtfajoknacfjedaaGreatDoor
open Go.RowKit
namespace Ex

def rangeL {n : Nat} (q : PatN (n + 1)) (next : Nat) (st : St) : Nat × St := (st.1.length, (st.1 ++ [(IntKind.u8.wrap (from_ q), IntKind.u8.wrap (to_ q), next)], st.2))
theorem range_c (n : Nat) (q : PatN (n + 1)) (hkd : kind q = 1) : LayC n q (rangeL q) := by
  intro X nb next st vk w h hk hX h1 _
  have h1' : st.1.length ≤ 300000 := by
    have : (st.1 ++ [(IntKind.u8.wrap (from_ q), IntKind.u8.wrap (to_ q), next)]).length ≤ 300000 := h1
    simp only [List.length_append, List.length_singleton] at this
    omega
  have := lay_range X nb st.1 st.2 (from_ q) (to_ q) (min_ q) (max_ q) vk next w h hX h1' (by obtain ⟨a, c, e⟩ := hk.form; exact ⟨a, _, c, e⟩)
  rw [valOf_eq, hkd]
  exact this
theorem range_grows {n : Nat} (q : PatN (n + 1)) : GrowsL (rangeL q) := fun next st => by
  unfold rangeL
  simp only [List.length_append, List.length_singleton]
  omega
/-- Patterns that lay is proved for. -/
def LayOk : (n : Nat) → PatN (n + 1) → Prop
  | 0, q => kind q = 1
  | n + 1, q => kind q = 1 ∨ (kind q = 2 ∧ kids q ≠ [] ∧ ∀ r ∈ kids q, LayOk n r) ∨ (kind q = 3 ∧ 2 ≤ (kids q).length ∧ ∀ r ∈ kids q, LayOk n r) ∨ (kind q = 4 ∧ max_ q = -1 ∧ 0 ≤ min_ q ∧ min_ q ≤ 1000 ∧ (kids q).length = 1 ∧ ∀ r ∈ kids q, LayOk n r)
end Ex
end Go.Proofs.YtfajoknacfjedaaGreatDoor
namespace Go.Proofs.YtfajoknacfjedaaGreatDoor
open Go.RowKit
attribute [local go_sem] Oper.semAt_some
namespace Ex

/-- newNet's answer. -/
def NetNew (w w' : World) (e : Ending) (first : Nat) (ts : List (Int × Int × Nat)) (fs : List (Nat × Nat)) : Prop :=
  ∃ nb vt vf, e = .returned (.pointer (some ⟨nb, 0, none⟩)) ∧ w.heap.size < nb ∧ w'.heap[nb]? = some (.cells #[.int .i64 (first : Int), vt, vf] 92 (0, 0)) ∧ w'.ownsRow 0 116 4 vt ts.length (takerC ts) ∧ w'.ownsRow 0 126 2 vf fs.length (forkC fs) ∧
    (∀ g, vt.ownBlock = some g → w.heap.size ≤ g ∧ g ≠ nb) ∧ ∀ g, vf.ownBlock = some g → w.heap.size ≤ g ∧ g ≠ nb ∧ vt.ownBlock ≠ some g

set_option linter.unusedSimpArgs false in
set_option maxRecDepth 100000 in
set_option maxHeartbeats 4000000 in
theorem newNet_g (n : Nat) (p : PatN (n + 1)) (r : Pat) (hr : ThinC n p r) (M : Nat → St → Nat × St) (hok : LayC r.1 r.2 M) (first : Nat) (st : St) (hlay : M 4096 ([], []) = (first, st)) (h1 : st.1.length ≤ 300000) (h2 : st.2.length ≤ 300000) (S : Nat → Prop) (vk : Value) (w : World) (hk : KidsAt S w n (kids p) vk) (hS : ∀ d, S d → d < w.heap.size) :
    Calls Tryz.prog 48 #[valOf p vk] w fun e w' => NetNew w w' e first st.1 st.2 ∧ Kept w w' := by
  have HT := hide1 hr
  have HOK := hide1 hok
  have HLY := hide1 hlay
  have HK := hide1 hk
  have HS := hide1 hS
  have H1 := hide1 h1
  have H2 := hide1 h2
  obtain ⟨ak, ck, rfl⟩ := hk.form
  rw [valOf_eq]
  clear hr hok hlay hk hS h1 h2
  go_enter Tryz.func48, Tryz.ntmps48
  go_wp2_with fail
  obtain ⟨W2, hW2⟩ : ∃ W2, (w.alloc (Obj.cells #[Value.int IntKind.i64 (kind p), Value.int IntKind.i64 (from_ p), Value.int IntKind.i64 (to_ p), Value.int IntKind.i64 (min_ p), Value.int IntKind.i64 (max_ p), Value.slice ak (kids p).length ck] 24)).alloc (Obj.cells #[Value.int IntKind.i64 0, Value.slice none 0 0, Value.slice none 0 0] 92) = W2 := ⟨_, rfl⟩
  have HK2 : Hid (Kept w W2) := by rw [← hW2]; exact ((Kept.refl w).alloc _ _).alloc _ _
  have HS2 : Hid (w.heap.size + 2 = W2.heap.size) := by show _ = _; rw [← hW2]; simp
  have HN2 : Hid (W2.heap[w.heap.size + 1]? = some (.cells #[.int .i64 0, .slice none 0 0, .slice none 0 0] 92 (0, 0))) := by
    show _ = _
    rw [← hW2]
    have := World.alloc_heap_new (w.alloc (Obj.cells #[Value.int IntKind.i64 (kind p), Value.int IntKind.i64 (from_ p), Value.int IntKind.i64 (to_ p), Value.int IntKind.i64 (min_ p), Value.int IntKind.i64 (max_ p), Value.slice ak (kids p).length ck] 24)) (Obj.cells #[Value.int IntKind.i64 0, Value.slice none 0 0, Value.slice none 0 0] 92)
    rwa [World.size_alloc] at this
  rw [hW2]
  clear hW2
  refine (HT.out S (.slice ak (kids p).length ck) W2 (HK.out.kept HK2.out) (fun d hd => by have := HS.out d hd; have := HS2.out; omega)).mono ?_
  rintro e w5 ⟨⟨v, rfl, v', rfl, hkv⟩, hk5⟩
  obtain ⟨a5, c5, rfl⟩ := hkv.form
  rw [valOf_eq]
  have hn5 := (hk5.2.2.2.2 (w.heap.size + 1) (by have := HS2.out; omega)).trans HN2.out
  have HN5 := hide1 hn5
  have HKV : Hid (KidsAt (fun d => d < w5.heap.size ∧ d ≠ w.heap.size + 1) w5 r.1 (kids r.2) (.slice a5 (kids r.2).length c5)) := KidsAt.mono (fun d o v hd hcc => hcc) (fun d hd => by have := HS2.out; rcases hd.1 with h | h; (have := HS.out d h; exact ⟨hd.2, by omega⟩); exact ⟨hd.2, by omega⟩) _ _ _ (hkv.tight)
  have HK5 := hide1 hk5
  have hs5 : w.heap.size + 2 ≤ w5.heap.size := by have := hk5.2.2.2.1; have := HS2.out; omega
  clear hn5 hkv hk5
  have HNL : Hid (NetL (fun d => d < w5.heap.size ∧ d ≠ w.heap.size + 1) w5 (w.heap.size + 1) [] []) := ⟨.int .i64 0, .slice none 0 0, .slice none 0 0, HN5.out, ⟨rfl, .inl ⟨rfl, rfl⟩⟩, ⟨rfl, .inl ⟨rfl, rfl⟩⟩, fun g hg => by simp [Value.ownBlock] at hg, fun g hg => by simp [Value.ownBlock] at hg⟩
  go_wp2_with fail
  refine (HOK.out (fun d => d < w5.heap.size ∧ d ≠ w.heap.size + 1) (w.heap.size + 1) 4096 ([], []) _ w5 HNL.out HKV.out (fun d hd => hd) (by rw [HLY.out]; exact H1.out) (by rw [HLY.out]; exact H2.out)).mono ?_
  rintro e w7 ⟨rfl, hn7, hk7⟩
  rw [HLY.out] at hn7 ⊢
  obtain ⟨f0, vt, vf, n1, n2, n3, n4, n5⟩ := hn7
  have HK7 := hide1 hk7
  have c0 : w7.cell? ⟨w.heap.size + 1, 0, none⟩ = some f0 := cell_of_row _ _ _ _ _ _ n1
  have z0 : w7.frozen? ⟨w.heap.size + 1, 0, none⟩ = false := by simp [World.frozen?, n1]
  have M1 := hide1 n1
  have M2 := hide1 n2
  have M3 := hide1 n3
  have M4 := hide1 n4
  have M5 := hide1 n5
  clear n1 n2 n3 n4 n5 hk7
  go_wp2_with fail
  go_ret
  have hset : ∀ k v, k ≠ w.heap.size + 1 → (w7.setCell ⟨w.heap.size + 1, 0, none⟩ v).heap[k]? = w7.heap[k]? := fun k v hk => Below.heap_setCell _ _ _ _ hk
  have hgl : w.heap.size + 1 < w7.heap.size := (Array.getElem?_eq_some_iff.1 M1.out).1
  have he : w7.heap[w.heap.size + 1] = Obj.cells #[f0, vt, vf] 92 (0, 0) := by have := M1.out; rw [Array.getElem?_eq_getElem hgl] at this; exact Option.some.inj this
  have k4 := M4.out
  have k5 := M5.out
  refine ⟨⟨w.heap.size + 1, vt, vf, rfl, by omega, by simp [World.setCell, Array.getElem_modify, hgl, he], owns_kept M2.out (fun g hg => hset g _ (k4 g hg).2), owns_kept M3.out (fun g hg => hset g _ (k5 g hg).2.1), fun g hg => ⟨?_, (k4 g hg).2⟩, fun g hg => ⟨?_, (k5 g hg).2⟩⟩, ?_⟩
  · have := k4 g hg
    by_cases hlt : g < w5.heap.size
    · exact absurd ⟨hlt, this.2⟩ this.1
    · omega
  · have := k5 g hg
    by_cases hlt : g < w5.heap.size
    · exact absurd ⟨hlt, this.2.1⟩ this.1
    · omega
  · have hk25 : Kept w w5 := by
      have a := HK2.out
      have b := HK5.out
      exact ⟨b.1.trans a.1, b.2.1.trans a.2.1, b.2.2.1.trans a.2.2.1, Nat.le_trans a.2.2.2.1 b.2.2.2.1, fun k hk => (b.2.2.2.2 k (by have := HS2.out; omega)).trans (a.2.2.2.2 k hk)⟩
    refine ⟨HK7.out.1.trans hk25.1, HK7.out.2.1.trans hk25.2.1, HK7.out.2.2.1.trans hk25.2.2.1, ?_, fun k hk => (hset k _ (by omega)).trans ((HK7.out.2.2.2.2 k ⟨by omega, by omega⟩).trans (hk25.2.2.2.2 k hk))⟩
    have e1 : (w7.setCell ⟨w.heap.size + 1, 0, none⟩ (.int .i64 (first : Int))).heap.size = w7.heap.size := by simp [World.setCell]
    rw [e1]
    omega

end Ex
end Go.Proofs.YtfajoknacfjedaaGreatDoor
