import Derived.Test.YtooelfjceehmmaaDoorMSpSp
namespace Go.Proofs.YtooelfjceehmmaaDoor
open Go.RowKit
attribute [local go_sem] Oper.semAt_some
namespace Ex

theorem XBox.fill {w : World} {b : Nat} {k n : Int} (h : XBox w b k n) (k2 n2 : Int) : XBox ((w.setCell ⟨b, 0, none⟩ (.int .i64 k2)).setCell ⟨b, 1, none⟩ (.int .i64 n2)) b k2 n2 := by
  unfold XBox at h ⊢
  have hl : b < w.heap.size := (Array.getElem?_eq_some_iff.1 h).1
  have he : w.heap[b] = Obj.cells #[.int .i64 k, .int .i64 n] 58 (0, 0) := by rw [Array.getElem?_eq_getElem hl] at h; exact Option.some.inj h
  simp [World.setCell, Array.getElem_modify, hl, he]
theorem sym2_size (k n : Int) : (Tryd.prog.info? 58).map (·.size) = some (#[Value.int .i64 k, Value.int .i64 n]).size := by
  show _ = some 2
  kernel_rfl
set_option linter.unusedSimpArgs false in
set_option maxRecDepth 100000 in
set_option maxHeartbeats 2000000 in
theorem small1_is (n : Int) (w : World) : Calls Tryd.prog 48 #[.int .i64 n] w fun e w' => e = .returned (.agg #[.int .i64 1, .int .i64 n]) ∧ Kept w w' := by
  have HB : Hid (XBox (w.alloc (.cells #[.int .i64 0, .int .i64 0] 58)) w.heap.size 0 0) := heap_alloc_new w _
  have HK : Hid (Kept w (w.alloc (.cells #[.int .i64 0, .int .i64 0] 58))) := (Kept.refl w).alloc _ _
  go_enter Tryd.func48, Tryd.ntmps48
  go_upto_region 1 with fail
  obtain ⟨W, hW⟩ : ∃ W, w.alloc (.cells #[.int .i64 0, .int .i64 0] 58) = W := ⟨_, rfl⟩
  rw [hW] at HB HK ⊢
  clear hW
  obtain ⟨c0, c1⟩ := HB.out.cells
  have z0 : W.frozen? ⟨w.heap.size, 0, none⟩ = false := by have h := HB.out; unfold XBox at h; simp [World.frozen?, h]
  have z1 : W.frozen? ⟨w.heap.size, 1, none⟩ = false := by have h := HB.out; unfold XBox at h; simp [World.frozen?, h]
  go_wp2_with fail
  refine bodyPost_ret (results_cell_row rfl _ _ w.heap.size 58 _ (0, 0) _ rfl (HB.out.fill 1 n) Tryd.underlying58 rfl (sym2_size _ _)) rfl ?_
  exact ⟨rfl, keepB (keepB HK.out (Nat.le_refl _)) (Nat.le_refl _)⟩
set_option linter.unusedSimpArgs false in
set_option maxRecDepth 100000 in
set_option maxHeartbeats 2000000 in
theorem small2_is (n : Int) (w : World) : Calls Tryd.prog 49 #[.int .i64 n] w fun e w' => e = .returned (.agg #[.int .i64 3, .int .i64 n]) ∧ Kept w w' := by
  have HB : Hid (XBox (w.alloc (.cells #[.int .i64 0, .int .i64 0] 58)) w.heap.size 0 0) := heap_alloc_new w _
  have HK : Hid (Kept w (w.alloc (.cells #[.int .i64 0, .int .i64 0] 58))) := (Kept.refl w).alloc _ _
  go_enter Tryd.func49, Tryd.ntmps49
  go_upto_region 1 with fail
  obtain ⟨W, hW⟩ : ∃ W, w.alloc (.cells #[.int .i64 0, .int .i64 0] 58) = W := ⟨_, rfl⟩
  rw [hW] at HB HK ⊢
  clear hW
  obtain ⟨c0, c1⟩ := HB.out.cells
  have z0 : W.frozen? ⟨w.heap.size, 0, none⟩ = false := by have h := HB.out; unfold XBox at h; simp [World.frozen?, h]
  have z1 : W.frozen? ⟨w.heap.size, 1, none⟩ = false := by have h := HB.out; unfold XBox at h; simp [World.frozen?, h]
  go_wp2_with fail
  refine bodyPost_ret (results_cell_row rfl _ _ w.heap.size 58 _ (0, 0) _ rfl (HB.out.fill 3 n) Tryd.underlying58 rfl (sym2_size _ _)) rfl ?_
  exact ⟨rfl, keepB (keepB HK.out (Nat.le_refl _)) (Nat.le_refl _)⟩
theorem flat_at {sz : Nat} : ∀ (cells : List (List Value)) (i j : Nat) (cs : List Value), (∀ c ∈ cells, c.length = sz) → cells[i]? = some cs → j < sz → cells.flatten[i * sz + j]? = cs[j]?
  | [], i, _, _, _, h, _ => by simp at h
  | c :: rest, 0, j, cs, hl, h, hj => by
    have e : c = cs := by simpa using h
    subst e
    rw [Nat.zero_mul, Nat.zero_add, List.flatten_cons, List.getElem?_append_left (by rw [hl c List.mem_cons_self]; exact hj)]
  | c :: rest, i + 1, j, cs, hl, h, hj => by
    have h2 : rest[i]? = some cs := by simpa using h
    have hc := hl c List.mem_cons_self
    rw [List.flatten_cons, List.getElem?_append_right (by rw [hc, Nat.add_mul]; omega), hc, show (i + 1) * sz + j - sz = i * sz + j by rw [Nat.add_mul]; omega]
    exact flat_at rest i j cs (fun c hc => hl c (List.mem_cons_of_mem _ hc)) h2 hj
/-- A block whose cells are the elements of a list, one behind the other. -/
theorem slice_blk {α : Type} {w : World} {g sz : Nat} {t : TypeId} {El : List Value → α → Prop} {cells : List (List Value)} {xs : List α} (h : Blk w g cells.flatten t) (hl : ∀ c ∈ cells, c.length = sz) (hn : cells.length = xs.length) (hx : xs.length ≤ 17592186044416) (hE : ∀ (i : Nat) (cs : List Value) (x : α), cells[i]? = some cs → xs[i]? = some x → El cs x) {n : Nat} (hnn : xs.length = n) : SliceOf w sz El (.slice (some ⟨g, 0, none⟩) n n) xs := by
  subst hnn
  refine ⟨some ⟨g, 0, none⟩, xs.length, rfl, Nat.le_refl _, hx, .inr ⟨g, 0, rfl, h.lt, fun i x hi => ?_⟩⟩
  obtain ⟨cs, hcs⟩ : ∃ cs, cells[i]? = some cs := ⟨_, List.getElem?_eq_getElem (by rw [hn]; exact (List.getElem?_eq_some_iff.1 hi).1)⟩
  refine ⟨cs, hl cs (List.mem_of_getElem? hcs), fun j u hu => ?_, hE i cs x hcs hi⟩
  have hj : j < sz := by rw [← hl cs (List.mem_of_getElem? hcs)]; exact (List.getElem?_eq_some_iff.1 hu).1
  rw [Nat.zero_add]
  exact h.cell ((flat_at cells i j cs hl hcs hj).trans hu)
def symC (row : List SymM) : List (List Value) := row.map fun x => [.int .i64 x.1, .int .i64 x.2]
theorem right_blk {w : World} {g : Nat} {t : TypeId} {row : List SymM} (h : Blk w g (symC row).flatten t) (hn : row.length ≤ 1000) {n : Nat} (hnn : row.length = n) : RightAt w (.slice (some ⟨g, 0, none⟩) n n) row := by
  refine slice_blk h (fun c hc => ?_) (by unfold symC; rw [List.length_map]) (by omega) (fun i cs x h1 h2 => ?_) hnn
  · obtain ⟨x, _, rfl⟩ := List.mem_map.1 hc
    rfl
  · unfold symC at h1
    rw [List.getElem?_map, h2] at h1
    have e : cs = [.int .i64 x.1, .int .i64 x.2] := by simpa using h1.symm
    exact e
def lexZ (s : ByteArray) (t : Bool) : List Value := [.string s, .bool t, .int .i64 0, .int .i64 0, .int .i64 0, .int .i64 0, .int .i64 0, .slice none 0 0]
theorem lex_blk {w : World} {g : Nat} (h : Blk w g [lexZ ⟨#[97]⟩ false, lexZ ⟨#[98]⟩ false, lexZ ⟨#[119]⟩ true, lexZ ⟨#[99]⟩ false].flatten 89) : LexAt w 0 (.slice (some ⟨g, 0, none⟩) 4 4) lexS := by
  have hk : KidsAt (fun d => d < w.heap.size) w 0 (kids patZ) (.slice none 0 0) := ⟨none, 0, rfl⟩
  refine slice_blk (sz := 8) (xs := lexS) h (fun c hc => ?_) rfl (by decide) (fun i cs x h1 h2 => ?_) rfl
  · simp only [List.mem_cons, List.not_mem_nil, or_false] at hc
    rcases hc with rfl | rfl | rfl | rfl <;> rfl
  · match i, h1, h2 with
    | 0, h1, h2 =>
      have e1 : lexZ ⟨#[97]⟩ false = cs := by simpa using h1
      have e2 : (⟨#[97]⟩, false, patZ) = x := by simpa [lexS] using h2
      subst e1 e2
      exact ⟨_, rfl, by decide, hk⟩
    | 1, h1, h2 =>
      have e1 : lexZ ⟨#[98]⟩ false = cs := by simpa using h1
      have e2 : (⟨#[98]⟩, false, patZ) = x := by simpa [lexS] using h2
      subst e1 e2
      exact ⟨_, rfl, by decide, hk⟩
    | 2, h1, h2 =>
      have e1 : lexZ ⟨#[119]⟩ true = cs := by simpa using h1
      have e2 : (⟨#[119]⟩, true, patZ) = x := by simpa [lexS] using h2
      subst e1 e2
      exact ⟨_, rfl, by decide, hk⟩
    | 3, h1, h2 =>
      have e1 : lexZ ⟨#[99]⟩ false = cs := by simpa using h1
      have e2 : (⟨#[99]⟩, false, patZ) = x := by simpa [lexS] using h2
      subst e1 e2
      exact ⟨_, rfl, by decide, hk⟩
    | i + 4, h1, _ => simp at h1
theorem prods_blk {w : World} {g : Nat} {v0 v1 v2 v4 v5 : Value} (h : Blk w g [[.int .i64 0, v0], [.int .i64 0, v1], [.int .i64 1, v2], [.int .i64 1, .slice none 0 0], [.int .i64 2, v4], [.int .i64 2, v5]].flatten 40) (h0 : RightAt w v0 [(3, 1), (3, 2), (1, 3)]) (h1 : RightAt w v1 [(2, 0)]) (h2 : RightAt w v2 [(1, 0), (3, 1)]) (h4 : RightAt w v4 [(1, 1)]) (h5 : RightAt w v5 [(3, 1)]) : ProdsAt w (.slice (some ⟨g, 0, none⟩) 6 6) psS := by
  have h3 : RightAt w (.slice none 0 0) [] := ⟨none, 0, rfl, Nat.le_refl _, by simp, .inl rfl⟩
  refine slice_blk (sz := 2) (xs := psS) h (fun c hc => ?_) rfl (by decide) (fun i cs x q1 q2 => ?_) rfl
  · simp only [List.mem_cons, List.not_mem_nil, or_false] at hc
    rcases hc with rfl | rfl | rfl | rfl | rfl | rfl <;> rfl
  · match i, q1, q2 with
    | 0, q1, q2 =>
      have e1 : [Value.int .i64 0, v0] = cs := by simpa using q1
      have e2 : (0, [(3, 1), (3, 2), (1, 3)]) = x := by simpa [psS] using q2
      subst e1 e2
      exact ⟨_, rfl, h0⟩
    | 1, q1, q2 =>
      have e1 : [Value.int .i64 0, v1] = cs := by simpa using q1
      have e2 : (0, [(2, 0)]) = x := by simpa [psS] using q2
      subst e1 e2
      exact ⟨_, rfl, h1⟩
    | 2, q1, q2 =>
      have e1 : [Value.int .i64 1, v2] = cs := by simpa using q1
      have e2 : (1, [(1, 0), (3, 1)]) = x := by simpa [psS] using q2
      subst e1 e2
      exact ⟨_, rfl, h2⟩
    | 3, q1, q2 =>
      have e1 : [Value.int .i64 1, .slice none 0 0] = cs := by simpa using q1
      have e2 : (1, []) = x := by simpa [psS] using q2
      subst e1 e2
      exact ⟨_, rfl, h3⟩
    | 4, q1, q2 =>
      have e1 : [Value.int .i64 2, v4] = cs := by simpa using q1
      have e2 : (2, [(1, 1)]) = x := by simpa [psS] using q2
      subst e1 e2
      exact ⟨_, rfl, h4⟩
    | 5, q1, q2 =>
      have e1 : [Value.int .i64 2, v5] = cs := by simpa using q1
      have e2 : (2, [(3, 1)]) = x := by simpa [psS] using q2
      subst e1 e2
      exact ⟨_, rfl, h5⟩
    | i + 6, q1, _ => simp at q1
/-- The fixed spec. -/
def SmR (w : World) (e : Ending) (w' : World) : Prop := ∃ g1 g2 g3, e = .returned (.agg #[.slice (some ⟨g1, 0, none⟩) 4 4, .slice (some ⟨g2, 0, none⟩) 3 3, .int .i64 0, .slice (some ⟨g3, 0, none⟩) 6 6]) ∧ LexAt w' 0 (.slice (some ⟨g1, 0, none⟩) 4 4) lexS ∧ ProdsAt w' (.slice (some ⟨g3, 0, none⟩) 6 6) psS ∧ Kept w w'
theorem spec4_size (x0 x1 x2 x3 : Value) : (Tryd.prog.info? 26).map (·.size) = some (#[x0, x1, x2, x3]).size := by
  show _ = some 4
  kernel_rfl
theorem hp_keep {w w' : World} {b : Nat} {o : Obj} (h : w.heap[b]? = some o) (hk : Kept w w') : w'.heap[b]? = some o := (hk.2.2.2.2 b (Array.getElem?_eq_some_iff.1 h).1).trans h
theorem SBox.fill {w : World} {b : Nat} {x0 x1 x2 x3 : Value} (h : SBox w b x0 x1 x2 x3) (y0 y1 y2 y3 : Value) : SBox ((((w.setCell ⟨b, 0, none⟩ y0).setCell ⟨b, 1, none⟩ y1).setCell ⟨b, 2, none⟩ y2).setCell ⟨b, 3, none⟩ y3) b y0 y1 y2 y3 := by
  unfold SBox at h ⊢
  have hl : b < w.heap.size := (Array.getElem?_eq_some_iff.1 h).1
  have he : w.heap[b] = Obj.cells #[x0, x1, x2, x3] 26 (0, 0) := by rw [Array.getElem?_eq_getElem hl] at h; exact Option.some.inj h
  simp [World.setCell, Array.getElem_modify, hl, he]
set_option linter.unusedSimpArgs false in
set_option maxRecDepth 100000 in
set_option maxHeartbeats 4000000 in
theorem sSmall_is (w : World) : Calls Tryd.prog 23 #[] w (SmR w) := by
  have hef1 : ∀ args w, (callFunc 48 args).run Tryd.prog w = .ok (.enter 48 args) w := enters_of (P := Tryd.prog) Tryd.func48 (by kernel_rfl) rfl
  have hef2 : ∀ args w, (callFunc 49 args).run Tryd.prog w = .ok (.enter 49 args) w := enters_of (P := Tryd.prog) Tryd.func49 (by kernel_rfl) rfl
  go_enter Tryd.func23, Tryd.ntmps23
  go_wp2_with fail
  refine (small2_is _ _).mono ?_
  rintro e w1 ⟨rfl, hk1⟩
  obtain ⟨b, hb⟩ : ∃ b, w.heap.size = b := ⟨_, rfl⟩
  have HR1 : Hid (w1.heap[b]? = some (.cells #[.slice none 0 0, .slice none 0 0, .int .i64 0, .slice none 0 0] 26 (0, 0))) := hb ▸ hp_keep (hp_keep (hp_keep (heap_alloc_new w _) ((Kept.refl _).alloc _ _)) ((Kept.refl _).alloc _ _)) hk1
  have HL1 : Hid (Blk w1 (b + 1) [lexZ ⟨#[97]⟩ false, lexZ ⟨#[98]⟩ false, lexZ ⟨#[119]⟩ true, lexZ ⟨#[99]⟩ false].flatten 89) := by
    have h := hp_keep (hp_keep (heap_alloc_new (w.alloc (.cells #[.slice none 0 0, .slice none 0 0, .int .i64 0, .slice none 0 0] 26)) _) ((Kept.refl _).alloc _ _)) hk1
    rw [World.size_alloc, hb] at h
    exact h
  have HK1 : Hid (Kept w w1) := gtrans ((((Kept.refl w).alloc _ _).alloc _ _).alloc _ _) hk1
  have HBW := hide1 hb
  rw [hb]
  clear hb hk1
  go_wp2_with fail
  refine (small2_is _ _).mono ?_
  rintro e w2 ⟨rfl, hk2⟩
  go_wp2_with fail
  refine (small1_is _ _).mono ?_
  rintro e w3 ⟨rfl, hk3⟩
  have HK3 := hide1 (gtrans HK1.out (gtrans hk2 hk3))
  have HR3 := hide1 (hp_keep HR1.out (gtrans hk2 hk3))
  have HL3 := hide1 (HL1.out.keep (gtrans hk2 hk3))
  clear hk2 hk3
  go_wp2_with fail
  refine (small1_is _ _).mono ?_
  rintro e w4 ⟨rfl, hk4⟩
  obtain ⟨r0, hr0⟩ : ∃ r0, w3.heap.size = r0 := ⟨_, rfl⟩
  have HA0 : Hid (Blk w4 r0 (symC [(3, 1), (3, 2), (1, 3)]).flatten 58) := by
    have h := hp_keep (hp_keep (heap_alloc_new w3 _) ((Kept.refl _).alloc _ _)) hk4
    rw [hr0] at h
    exact h
  have HA1 : Hid (Blk w4 (r0 + 1) (symC [(2, 0)]).flatten 58) := by
    have h := hp_keep (heap_alloc_new (w3.alloc (.cells #[.int .i64 3, .int .i64 1, .int .i64 3, .int .i64 2, .int .i64 1, .int .i64 3] 58)) _) hk4
    rw [World.size_alloc, hr0] at h
    exact h
  have HK34 : Hid (Kept w3 w4) := gtrans (((Kept.refl w3).alloc _ _).alloc _ _) hk4
  have HR4 := hide1 (hp_keep HR3.out HK34.out)
  have HL4 := hide1 (HL3.out.keep HK34.out)
  rw [hr0]
  clear hr0 hk4
  go_wp2_with fail
  refine (small2_is _ _).mono ?_
  rintro e w5 ⟨rfl, hk5⟩
  have HK5 := hide1 hk5
  clear hk5
  go_wp2_with fail
  refine (small1_is _ _).mono ?_
  rintro e w6 ⟨rfl, hk6⟩
  obtain ⟨r2, hr2⟩ : ∃ r2, w5.heap.size = r2 := ⟨_, rfl⟩
  have HA2 : Hid (Blk w6 r2 (symC [(1, 0), (3, 1)]).flatten 58) := by
    have h := hp_keep (heap_alloc_new w5 _) hk6
    rw [hr2] at h
    exact h
  have HK56 : Hid (Kept w5 w6) := gtrans ((Kept.refl w5).alloc _ _) hk6
  rw [hr2]
  clear hr2 hk6
  go_wp2_with fail
  refine (small2_is _ _).mono ?_
  rintro e w7 ⟨rfl, hk7⟩
  obtain ⟨r4, hr4⟩ : ∃ r4, w6.heap.size = r4 := ⟨_, rfl⟩
  have HA4 : Hid (Blk w7 r4 (symC [(1, 1)]).flatten 58) := by
    have h := hp_keep (heap_alloc_new w6 _) hk7
    rw [hr4] at h
    exact h
  have HK67 : Hid (Kept w6 w7) := gtrans ((Kept.refl w6).alloc _ _) hk7
  rw [hr4]
  clear hr4 hk7
  have HK47 := hide1 (gtrans HK5.out (gtrans HK56.out HK67.out))
  have HR7 := hide1 (hp_keep HR4.out HK47.out)
  have HQ : Hid (∀ c1 t1 c2 t2, ((w7.alloc (.cells c1 t1)).alloc (.cells c2 t2)).heap[b]? = some (.cells #[.slice none 0 0, .slice none 0 0, .int .i64 0, .slice none 0 0] 26 (0, 0))) := fun _ _ _ _ => hp_keep HR7.out (((Kept.refl w7).alloc _ _).alloc _ _)
  have q0 : ∀ c1 t1 c2 t2, ((w7.alloc (.cells c1 t1)).alloc (.cells c2 t2)).cell? ⟨b, 0, none⟩ = some (.slice none 0 0) := fun c1 t1 c2 t2 => by simp only [World.cell?, HQ.out c1 t1 c2 t2]; rfl
  have q1 : ∀ c1 t1 c2 t2, ((w7.alloc (.cells c1 t1)).alloc (.cells c2 t2)).cell? ⟨b, 1, none⟩ = some (.slice none 0 0) := fun c1 t1 c2 t2 => by simp only [World.cell?, HQ.out c1 t1 c2 t2]; rfl
  have q2 : ∀ c1 t1 c2 t2, ((w7.alloc (.cells c1 t1)).alloc (.cells c2 t2)).cell? ⟨b, 2, none⟩ = some (.int .i64 0) := fun c1 t1 c2 t2 => by simp only [World.cell?, HQ.out c1 t1 c2 t2]; rfl
  have q3 : ∀ c1 t1 c2 t2, ((w7.alloc (.cells c1 t1)).alloc (.cells c2 t2)).cell? ⟨b, 3, none⟩ = some (.slice none 0 0) := fun c1 t1 c2 t2 => by simp only [World.cell?, HQ.out c1 t1 c2 t2]; rfl
  have z0 : ∀ c1 t1 c2 t2, ((w7.alloc (.cells c1 t1)).alloc (.cells c2 t2)).frozen? ⟨b, 0, none⟩ = false := fun c1 t1 c2 t2 => by simp [World.frozen?, HQ.out c1 t1 c2 t2]
  have z1 : ∀ c1 t1 c2 t2, ((w7.alloc (.cells c1 t1)).alloc (.cells c2 t2)).frozen? ⟨b, 1, none⟩ = false := fun c1 t1 c2 t2 => by simp [World.frozen?, HQ.out c1 t1 c2 t2]
  have z2 : ∀ c1 t1 c2 t2, ((w7.alloc (.cells c1 t1)).alloc (.cells c2 t2)).frozen? ⟨b, 2, none⟩ = false := fun c1 t1 c2 t2 => by simp [World.frozen?, HQ.out c1 t1 c2 t2]
  have z3 : ∀ c1 t1 c2 t2, ((w7.alloc (.cells c1 t1)).alloc (.cells c2 t2)).frozen? ⟨b, 3, none⟩ = false := fun c1 t1 c2 t2 => by simp [World.frozen?, HQ.out c1 t1 c2 t2]
  go_wp2_with fail
  clear q0 q1 q2 q3 z0 z1 z2 z3
  have HA5 : Hid (Blk ((w7.alloc (.cells #[.int .i64 3, .int .i64 1] 58)).alloc (.cells #[.int .i64 0, .slice (some ⟨r0, 0, none⟩) 3 3, .int .i64 0, .slice (some ⟨r0 + 1, 0, none⟩) 1 1, .int .i64 1, .slice (some ⟨r2, 0, none⟩) 2 2, .int .i64 1, .slice none 0 0, .int .i64 2, .slice (some ⟨r4, 0, none⟩) 1 1, .int .i64 2, .slice (some ⟨w7.heap.size, 0, none⟩) 1 1] 40)) w7.heap.size (symC [(3, 1)]).flatten 58) := hp_keep (heap_alloc_new w7 _) ((Kept.refl _).alloc _ _)
  have HPR : Hid (Blk ((w7.alloc (.cells #[.int .i64 3, .int .i64 1] 58)).alloc (.cells #[.int .i64 0, .slice (some ⟨r0, 0, none⟩) 3 3, .int .i64 0, .slice (some ⟨r0 + 1, 0, none⟩) 1 1, .int .i64 1, .slice (some ⟨r2, 0, none⟩) 2 2, .int .i64 1, .slice none 0 0, .int .i64 2, .slice (some ⟨r4, 0, none⟩) 1 1, .int .i64 2, .slice (some ⟨w7.heap.size, 0, none⟩) 1 1] 40)) (w7.heap.size + 1) [[.int .i64 0, .slice (some ⟨r0, 0, none⟩) 3 3], [.int .i64 0, .slice (some ⟨r0 + 1, 0, none⟩) 1 1], [.int .i64 1, .slice (some ⟨r2, 0, none⟩) 2 2], [.int .i64 1, .slice none 0 0], [.int .i64 2, .slice (some ⟨r4, 0, none⟩) 1 1], [.int .i64 2, .slice (some ⟨w7.heap.size, 0, none⟩) 1 1]].flatten 40) := by
    have h := heap_alloc_new (w7.alloc (.cells #[.int .i64 3, .int .i64 1] 58)) (.cells #[.int .i64 0, .slice (some ⟨r0, 0, none⟩) 3 3, .int .i64 0, .slice (some ⟨r0 + 1, 0, none⟩) 1 1, .int .i64 1, .slice (some ⟨r2, 0, none⟩) 2 2, .int .i64 1, .slice none 0 0, .int .i64 2, .slice (some ⟨r4, 0, none⟩) 1 1, .int .i64 2, .slice (some ⟨w7.heap.size, 0, none⟩) 1 1] 40)
    rw [World.size_alloc] at h
    exact h
  have HK8 : Hid (Kept w7 ((w7.alloc (.cells #[.int .i64 3, .int .i64 1] 58)).alloc (.cells #[.int .i64 0, .slice (some ⟨r0, 0, none⟩) 3 3, .int .i64 0, .slice (some ⟨r0 + 1, 0, none⟩) 1 1, .int .i64 1, .slice (some ⟨r2, 0, none⟩) 2 2, .int .i64 1, .slice none 0 0, .int .i64 2, .slice (some ⟨r4, 0, none⟩) 1 1, .int .i64 2, .slice (some ⟨w7.heap.size, 0, none⟩) 1 1] 40))) := ((Kept.refl w7).alloc _ _).alloc _ _
  have HSB : Hid (SBox ((w7.alloc (.cells #[.int .i64 3, .int .i64 1] 58)).alloc (.cells #[.int .i64 0, .slice (some ⟨r0, 0, none⟩) 3 3, .int .i64 0, .slice (some ⟨r0 + 1, 0, none⟩) 1 1, .int .i64 1, .slice (some ⟨r2, 0, none⟩) 2 2, .int .i64 1, .slice none 0 0, .int .i64 2, .slice (some ⟨r4, 0, none⟩) 1 1, .int .i64 2, .slice (some ⟨w7.heap.size, 0, none⟩) 1 1] 40)) b (.slice none 0 0) (.slice none 0 0) (.int .i64 0) (.slice none 0 0)) := HQ.out _ _ _ _
  obtain ⟨W8, hW8⟩ : ∃ W8, (w7.alloc (.cells #[.int .i64 3, .int .i64 1] 58)).alloc (.cells #[.int .i64 0, .slice (some ⟨r0, 0, none⟩) 3 3, .int .i64 0, .slice (some ⟨r0 + 1, 0, none⟩) 1 1, .int .i64 1, .slice (some ⟨r2, 0, none⟩) 2 2, .int .i64 1, .slice none 0 0, .int .i64 2, .slice (some ⟨r4, 0, none⟩) 1 1, .int .i64 2, .slice (some ⟨w7.heap.size, 0, none⟩) 1 1] 40) = W8 := ⟨_, rfl⟩
  rw [hW8] at HA5 HPR HK8 HSB ⊢
  clear hW8 HQ
  refine bodyPost_ret (results_cell_row rfl _ _ b 26 _ (0, 0) _ rfl (HSB.out.fill _ _ _ _) Tryd.underlying26 rfl (spec4_size _ _ _ _)) rfl ?_
  have HBU : Hid (KeptBut b W8 ((((W8.setCell ⟨b, 0, none⟩ (.slice (some ⟨b + 1, 0, none⟩) 4 4)).setCell ⟨b, 1, none⟩ (.slice (some ⟨b + 1 + 1, 0, none⟩) 3 3)).setCell ⟨b, 2, none⟩ (.int .i64 0)).setCell ⟨b, 3, none⟩ (.slice (some ⟨w7.heap.size + 1, 0, none⟩) 6 6))) := but_set (but_set (but_set (but_set (but_refl b W8) _ _) _ _) _ _) _ _
  have b8 : ∀ {g : Nat} {L : List Value} {t : TypeId}, Blk W8 g L t → t ≠ 26 → Blk ((((W8.setCell ⟨b, 0, none⟩ (.slice (some ⟨b + 1, 0, none⟩) 4 4)).setCell ⟨b, 1, none⟩ (.slice (some ⟨b + 1 + 1, 0, none⟩) 3 3)).setCell ⟨b, 2, none⟩ (.int .i64 0)).setCell ⟨b, 3, none⟩ (.slice (some ⟨w7.heap.size + 1, 0, none⟩) 6 6)) g L t := fun h ht => h.but HBU.out (fun e => by
    subst e
    have h1 := HSB.out
    unfold SBox at h1
    unfold Blk at h
    rw [h1] at h
    injection h with h
    injection h with _ h _
    exact ht h.symm)
  have k48 := gtrans HK47.out HK8.out
  refine ⟨b + 1, b + 1 + 1, w7.heap.size + 1, rfl, lex_blk (b8 (HL4.out.keep k48) (by decide)), prods_blk (b8 HPR.out (by decide)) (right_blk (b8 (HA0.out.keep k48) (by decide)) (by decide) rfl) (right_blk (b8 (HA1.out.keep k48) (by decide)) (by decide) rfl) (right_blk (b8 (HA2.out.keep (gtrans HK67.out HK8.out)) (by decide)) (by decide) rfl) (right_blk (b8 (HA4.out.keep HK8.out) (by decide)) (by decide) rfl) (right_blk (b8 HA5.out (by decide)) (by decide) rfl), ?_⟩
  exact KeptBut.up (gtrans HK3.out (gtrans HK34.out k48)) (Nat.le_of_eq HBW.out) HBU.out

end Ex
end Go.Proofs.YtooelfjceehmmaaDoor
