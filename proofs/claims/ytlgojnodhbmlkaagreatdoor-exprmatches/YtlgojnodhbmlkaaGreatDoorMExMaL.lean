import Derived.Test.YtlgojnodhbmlkaaGreatDoorMExMaI
import Derived.Deep.Cut
import Derived.Deep.CutRange
import Derived.RegionTactic
import Derived.Deep.RegionHeld3
import Derived.Test.YtlgojnodhbmlkaaGreatDoorMExGd0
namespace Go.Proofs.YtlgojnodhbmlkaaGreatDoor
open Go.RowKit
attribute [local go_sem] Oper.semAt_some
namespace Ex

theorem getElem_snoc_at {α : Type} {l r : List α} {x : α} {i : Nat} (h : l.length = i) : (l ++ x :: r)[i]? = some x := by
  rw [List.getElem?_append_right (by omega), h, Nat.sub_self]; rfl
theorem set_snoc_at {α : Type} {l r : List α} {x y : α} {i : Nat} (h : l.length = i) : (l ++ x :: r).set i y = l ++ y :: r := by
  rw [List.set_append_right _ _ (by omega), h, Nat.sub_self]; rfl
set_option linter.unusedSimpArgs false in
set_option maxRecDepth 100000 in
set_option maxHeartbeats 16000000 in
theorem add_step (n : Nat) (q : PatN (n + 1 + 1)) (hC : ∀ r ∈ kids q, AddC n r) : AddC (n + 1) q := by
  intro R nb vB ND vk w hA hk hlen
  have HC := hide1 hC
  have HKQ := hide1 hk
  obtain ⟨f, xs, hf0, hP, hF, hKo, h3, h4, h5⟩ := hA
  have HF0 := hide1 hf0
  have HP := hide1 hP
  have HF := hide1 hF
  have HKO := hide1 hKo
  have HN3 := hide1 h3
  have HN4 := hide1 h4
  have HN5 := hide1 h5
  have HLN := hide1 hlen
  obtain ⟨ak, ck, rfl⟩ := hk.form
  obtain ⟨a1, c1, e1⟩ := row_form (hP.2.2.2 1 (by omega) (by omega)).1
  obtain ⟨a2, c2, e2⟩ := row_form (hP.2.2.2 2 (by omega) (by omega)).1
  obtain ⟨a3, c3, e3⟩ := row_form (hP.2.2.2 3 (by omega) (by omega)).1
  obtain ⟨a4, c4, e4⟩ := row_form (hP.2.2.2 4 (by omega) (by omega)).1
  obtain ⟨a5, c5, e5⟩ := row_form (hP.2.2.2 5 (by omega) (by omega)).1
  rw [valOf_eq]
  obtain ⟨N, hN⟩ : ∃ N, ND.length = N := ⟨_, rfl⟩
  have HN := hide1 hN
  have gN : N ≤ 5000 := by rw [← hN]; omega
  have HE1 : Hid (f 1 = .slice a1 N c1) := by rw [← hN]; exact e1
  have HE2 : Hid (f 2 = .slice a2 N c2) := by rw [← hN]; exact e2
  have HE3 : Hid (f 3 = .slice a3 N c3) := by rw [← hN]; exact e3
  have HE4 : Hid (f 4 = .slice a4 N c4) := by rw [← hN]; exact e4
  have HE5 : Hid (f 5 = .slice a5 N c5) := by rw [← hN]; exact e5
  have HP : Hid (NetP R w nb f (fun _ => N) xs) := by rw [← hN]; exact hP
  have HR1 : Hid (w.ownsRow 0 24 6 (.slice a1 N c1) N (xs 1)) := by
    have h := (HP.out.2.2.2 1 (by omega) (by omega)).1
    rw [HE1.out] at h
    exact h
  have HC1 : Hid (w.cell? ⟨nb, 1, none⟩ = some (.slice a1 N c1) ∧ w.frozen? ⟨nb, 1, none⟩ = false) := ⟨(HP.out.cells 1 (by omega)).1.trans (congrArg some HE1.out), (HP.out.cells 1 (by omega)).2⟩
  obtain ⟨nk, hnk⟩ : ∃ nk, (kids q).length = nk := ⟨_, rfl⟩
  have HNK := hide1 hnk
  have gnk : nk ≤ 5000 := by
    have h : (nodesN (n + 1) q ND.length).length = (catB ((kids q).map (foldN nodeF n)) (ND.length + 1)).length + 1 := rfl
    have h2 : ∀ (bs : List (Nat → List NodeT)) (i : Nat), (∀ b ∈ bs, ∀ i, 1 ≤ (b i).length) → bs.length ≤ (catB bs i).length := by
      intro bs
      induction bs with
      | nil => intro i _; exact Nat.zero_le _
      | cons b bs ih =>
        intro i hb
        show bs.length + 1 ≤ (b i ++ catB bs (i + (b i).length)).length
        rw [List.length_append]
        have := ih (i + (b i).length) (fun c hc => hb c (List.mem_cons_of_mem _ hc))
        have := hb b (List.mem_cons_self ..) i
        omega
    have h3 := h2 ((kids q).map (foldN nodeF n)) (ND.length + 1) (fun b hb i => by
      obtain ⟨r, _, rfl⟩ := List.mem_map.1 hb
      cases n with
      | zero => exact Nat.succ_le_succ (Nat.zero_le _)
      | succ n => exact Nat.succ_le_succ (Nat.zero_le _))
    rw [List.length_map] at h3
    omega
  rw [hnk]
  rw [hnk] at HKQ
  clear hC hk hf0 hP hF hKo h3 h4 h5 hlen e1 e2 e3 e4 e5 hN hnk
  go_enter Tryz.func30, Tryz.ntmps30
  have HBX := hide1 (BoxAt.new w (.int .i64 (kind q)) (.int .i64 (from_ q)) (.int .i64 (to_ q)) (.int .i64 (min_ q)) (.int .i64 (max_ q)) (.slice ak nk ck))
  have HK1 : Hid (Kept w (w.alloc (.cells #[.int .i64 (kind q), .int .i64 (from_ q), .int .i64 (to_ q), .int .i64 (min_ q), .int .i64 (max_ q), .slice ak nk ck] 24))) := (Kept.refl w).alloc _ _
  have u0 : (w.alloc (.cells #[.int .i64 (kind q), .int .i64 (from_ q), .int .i64 (to_ q), .int .i64 (min_ q), .int .i64 (max_ q), .slice ak nk ck] 24)).cell? ⟨nb, 1, none⟩ = some (.slice a1 N c1) := grown_cell ((Kept.refl w).alloc _ _) HC1.out.1
  go_upto_region 2 with fail
  clear u0
  obtain ⟨w1, hw1⟩ : ∃ w1, w.alloc (.cells #[.int .i64 (kind q), .int .i64 (from_ q), .int .i64 (to_ q), .int .i64 (min_ q), .int .i64 (max_ q), .slice ak nk ck] 24) = w1 := ⟨_, rfl⟩
  rw [hw1] at HBX HK1 ⊢
  have HGX : Hid (w.heap.size ≤ w.heap.size) := Nat.le_refl _
  obtain ⟨gx, hgx⟩ : ∃ gx, w.heap.size = gx := ⟨_, rfl⟩
  rw [hgx] at HBX ⊢
  have HGX : Hid (w.heap.size ≤ gx) := by rw [hgx]; exact Nat.le_refl _
  clear hw1 hgx
  go_cut [5] from 14 to 24 (fun c wx => c = .int .i64 (N : Int) ∧ ∃ w2, w2 = wx ∧ E2G nb f (fun _ => N) xs R w gx N (.int .i64 (kind q)) (.int .i64 (from_ q)) (.int .i64 (to_ q)) (.int .i64 (min_ q)) (.int .i64 (max_ q)) (.slice ak nk ck) w2)
  case first =>
    refine wp_region_held_drew (S := fun w' => BoxAt w' gx (.int .i64 (kind q)) (.int .i64 (from_ q)) (.int .i64 (to_ q)) (.int .i64 (min_ q)) (.int .i64 (max_ q)) (.slice ak nk ck)) (by kernel_rfl) HBX.out (fun hHeld => ?_)
    refine wpAnyH_take (i := 0) (v := .pointer (some ⟨nb, 0, none⟩)) rfl (by kernel_rfl) (by kernel_rfl) (by kernel_rfl) (fun _ _ _ h => h) (Or.inl ⟨by rfl, fun w' hSw => ?_⟩) (by with_reducible assumption) ?_
    · clear hSw
      go_simp
    try simp only [Act.put, List.setIfInBounds_toArray, List.set_cons_zero, List.set_cons_succ]
    refine wpAnyH_take (i := 1) (v := .pointer (some ⟨nb, 0, none⟩)) rfl (by kernel_rfl) (by kernel_rfl) (by kernel_rfl) (fun _ _ _ h => h) (Or.inl ⟨by rfl, fun w' hSw => ?_⟩) (by with_reducible assumption) ?_
    · clear hSw
      go_simp
    try simp only [Act.put, List.setIfInBounds_toArray, List.set_cons_zero, List.set_cons_succ]
    refine wpAnyH_take (i := 2) (v := .pointer (some ⟨nb, 1, none⟩)) rfl (by kernel_rfl) (by kernel_rfl) (by kernel_rfl) (fun _ _ _ h => h) (Or.inl ⟨by rfl, fun w' hSw => ?_⟩) (by with_reducible assumption) ?_
    · clear hSw
      go_simp
    try simp only [Act.put, List.setIfInBounds_toArray, List.set_cons_zero, List.set_cons_succ]
    refine wpAnyH_take (i := 4) (v := .agg #[.int .i64 (kind q), .int .i64 (from_ q), .int .i64 (to_ q), .int .i64 (min_ q), .int .i64 (max_ q), .slice ak nk ck]) rfl (by kernel_rfl) (by kernel_rfl) (by kernel_rfl) (fun _ _ _ h => h) (Or.inl ⟨by rfl, fun w' hSw => ?_⟩) (by with_reducible assumption) ?_
    · obtain ⟨⟨t0, t1, t2, t3, t4, t5⟩, _⟩ := hSw.facts
      go_simp
    try simp only [Act.put, List.setIfInBounds_toArray, List.set_cons_zero, List.set_cons_succ]
    obtain ⟨V0, hV0⟩ : ∃ V0, w1.drew = V0 := ⟨_, rfl⟩
    have HV0 : Hid (Kept w V0) := by rw [← hV0]; exact gtrans HK1.out (drew_kept _)
    rw [hV0] at hHeld ⊢
    clear hV0
    refine wpAnyH_ready (rs := [3, 6]) (by kernel_rfl) (by simp) ?_
    refine AllReadyH.cons (i := 3) (o := { dst := some 17, op := .load 22 (.tmp 16), type := 22, pos := "ref.go:166", after := #[{ on := 2, ground := .data }], guard := none }) (by kernel_rfl) (fun K hK => ?_) (AllReadyH.cons (i := 6) (o := { dst := some 20, op := .buildSlice 22 1 #[(0, .const (.agg #[.int .i64 0, .int .i64 0, .int .i64 0, .int .i64 0, .int .i64 0, .slice none 0 0]))], type := 22, pos := "ref.go:166", after := #[], guard := none }) (by kernel_rfl) (fun K hK => ?_) AllReadyH.nil)
    · have u0 : V0.cell? ⟨nb, 1, none⟩ = some (.slice a1 N c1) := grown_cell HV0.out HC1.out.1
      go_simp
      clear u0
      refine hK.out _ _ hHeld (fun hHeld2 => ?_)
      clear hK K hHeld
      have hHeld := hHeld2
      clear hHeld2
      try simp only [Act.put, List.setIfInBounds_toArray, List.set_cons_zero, List.set_cons_succ]
      refine wpAnyH_take (i := 5) (oi := { dst := some 19, op := .call { callee := .builtin .len, args := #[.tmp 17], argTypes := #[22] }, type := 3, pos := "ref.go:166", after := #[{ on := 3, ground := .data }], guard := none }) (v := .int .i64 (N : Int)) (by kernel_rfl) (by kernel_rfl) (by kernel_rfl) (by kernel_rfl) (fun _ _ _ h => h) (Or.inl ⟨by rfl, fun w' hSw => ?_⟩) (by with_reducible assumption) ?_
      · clear hSw
        go_simp
      try simp only [Act.put, List.setIfInBounds_toArray, List.set_cons_zero, List.set_cons_succ]
      refine wpAnyH_ready (rs := [6]) (by kernel_rfl) (by simp) ?_
      refine AllReadyH.cons (i := 6) (o := { dst := some 20, op := .buildSlice 22 1 #[(0, .const (.agg #[.int .i64 0, .int .i64 0, .int .i64 0, .int .i64 0, .int .i64 0, .slice none 0 0]))], type := 22, pos := "ref.go:166", after := #[], guard := none }) (by kernel_rfl) (fun K hK => ?_) AllReadyH.nil
      go_simp
      have KK := hide1 ((Kept.refl V0).alloc #[.int .i64 0, .int .i64 0, .int .i64 0, .int .i64 0, .int .i64 0, .slice none 0 0] 24)
      refine hK.out _ _ (hHeld.keep KK.out) (fun hHeld2 => ?_)
      clear hK K hHeld
      have hHeld := hHeld2
      clear hHeld2
      try simp only [Act.put, List.setIfInBounds_toArray, List.set_cons_zero, List.set_cons_succ]
      have HGS := hide1 (BoxAt.new V0 (.int .i64 0) (.int .i64 0) (.int .i64 0) (.int .i64 0) (.int .i64 0) (.slice none 0 0))
      have HV1 := hide1 (gtrans HV0.out KK.out)
      clear KK HV0
      generalize V0.alloc (.cells #[.int .i64 0, .int .i64 0, .int .i64 0, .int .i64 0, .int .i64 0, .slice none 0 0] 24) = V1 at hHeld HGS HV1 ⊢
      generalize V0.heap.size = gs at HGS ⊢
      refine wpAnyH_ready (rs := [7]) (by kernel_rfl) (by simp) ?_
      refine AllReadyH.cons (i := 7) (o := { dst := some 21, op := .call { callee := .builtin .append, args := #[.tmp 17, .tmp 20], argTypes := #[22, 22] }, type := 22, pos := "ref.go:166", after := #[{ on := 3, ground := .data }, { on := 6, ground := .data }, { on := 0, ground := .phase }, { on := 1, ground := .phase }, { on := 2, ground := .phase }, { on := 3, ground := .phase }, { on := 4, ground := .phase }, { on := 5, ground := .phase }, { on := 6, ground := .phase }], guard := none }) (by kernel_rfl) (fun K hK => ?_) AllReadyH.nil
      refine step_zero rfl _ _ rfl _ _ N (xs 1) (by rfl) (owns_same HR1.out (fun d hd => HV1.out.2.2.2.2 d (HR1.out.lt d hd).2)) gs (by rfl) HGS.out (by omega) ?_
      intro g9 c9 w9 ho9 hg9 hl9
      obtain ⟨hE1, hn1, hn2⟩ := e2_end (gx := gx) HP.out HV1.out HGX.out hHeld (by rw [HE1.out]; exact hg9) ho9 (by rw [HE1.out]; exact hl9)
      have HE := hide1 hE1
      have HNB := hide1 hn1
      have hrow : RowAt w9 g9 c9 := by
        rcases ho9.2 with ⟨h, _⟩ | ⟨g', c', cur, h, _, h3, _, _, h6, _⟩
        · cases h
        · simp only [Value.slice.injEq, Option.some.injEq, Addr.mk.injEq] at h
          obtain ⟨⟨rfl, _⟩, _, rfl⟩ := h
          exact ⟨cur, h3, h6⟩
      have HROW := hide1 hrow
      have HC9 : Hid (N + 1 ≤ c9) := by
        rcases ho9.2 with ⟨h, _⟩ | ⟨g', c', cur, h, _, _, h4, _⟩
        · cases h
        · simp only [Value.slice.injEq, Option.some.injEq, Addr.mk.injEq] at h
          obtain ⟨_, _, rfl⟩ := h
          exact h4
      have hbx9 : BoxAt w9 gx (.int .i64 (kind q)) (.int .i64 (from_ q)) (.int .i64 (to_ q)) (.int .i64 (min_ q)) (.int .i64 (max_ q)) (.slice ak nk ck) := (hg9.block gx hHeld.lt (fun e => by have h := (HP.out.2.2.2 1 (by omega) (by omega)).2 gx (by rw [HE1.out]; exact e.symm); have h2 := HP.out.2.2.1 gx HGX.out; omega)).trans hHeld
      have hnb9 : w9.heap[nb]? = w.heap[nb]? := (hg9.block nb (Nat.lt_of_lt_of_le HP.out.lt HV1.out.size) (fun e => by have h := (HP.out.2.2.2 1 (by omega) (by omega)).2 nb (by rw [HE1.out]; exact e.symm); have h2 := HP.out.2.1; omega)).trans (HV1.out.2.2.2.2 nb HP.out.lt)
      have HNB9 := hide1 hnb9
      have HB9 := hide1 hbx9
      have HNX := hide1 hn2
      clear ho9 hg9 hl9 hn1 hn2 hE1 hrow hbx9 hnb9
      refine hK.out _ _ HB9.out (fun hHeld2 => ?_)
      clear hK K hHeld
      have hHeld := hHeld2
      clear hHeld2
      try simp only [Act.put, List.setIfInBounds_toArray, List.set_cons_zero, List.set_cons_succ]
      have gN1 : (N : Int) < (N : Int) + 1 := by omega
      have gN2 : (N : Int) + 1 ≤ (c9 : Int) := by have := HC9.out; omega
      refine wpAnyH_take (i := 8) (oi := { dst := some 22, op := .indexAddr 22 (.tmp 21) (.tmp 19), type := 0, pos := "ref.go:166", after := #[{ on := 7, ground := .data }, { on := 5, ground := .data }, { on := 0, ground := .phase }, { on := 1, ground := .phase }, { on := 2, ground := .phase }, { on := 3, ground := .phase }, { on := 4, ground := .phase }, { on := 5, ground := .phase }, { on := 6, ground := .phase }, { on := 7, ground := .phase }, { on := 12, ground := .gcOnly .appendInPlace }], guard := none }) (v := .pointer (some ⟨g9, N * 6, none⟩)) (by kernel_rfl) (by kernel_rfl) (by kernel_rfl) (by kernel_rfl) (fun _ _ _ h => h) (Or.inl ⟨by rfl, fun w' hSw => ?_⟩) (by with_reducible assumption) ?_
      · clear hSw
        go_simp
      try simp only [Act.put, List.setIfInBounds_toArray, List.set_cons_zero, List.set_cons_succ]
      refine wpAnyH_take (i := 10) (oi := { dst := some 23, op := .nilCheck (.tmp 14), type := 0, pos := "ref.go:166", after := #[{ on := 0, ground := .data }, { on := 0, ground := .phase }, { on := 1, ground := .phase }, { on := 2, ground := .phase }, { on := 3, ground := .phase }, { on := 4, ground := .phase }, { on := 5, ground := .phase }, { on := 6, ground := .phase }, { on := 7, ground := .phase }, { on := 8, ground := .textOnly .appendInPlace }, { on := 9, ground := .textOnly .appendInPlace }], guard := none }) (v := .pointer (some ⟨nb, 0, none⟩)) (by kernel_rfl) (by kernel_rfl) (by kernel_rfl) (by kernel_rfl) (fun _ _ _ h => h) (Or.inl ⟨by rfl, fun w' hSw => ?_⟩) (by with_reducible assumption) ?_
      · clear hSw
        go_simp
      try simp only [Act.put, List.setIfInBounds_toArray, List.set_cons_zero, List.set_cons_succ]
      refine wpAnyH_take (i := 11) (oi := { dst := some 24, op := .fieldAddr 66 (.tmp 23) 1, type := 0, pos := "ref.go:166", after := #[{ on := 10, ground := .data }, { on := 0, ground := .phase }, { on := 1, ground := .phase }, { on := 2, ground := .phase }, { on := 3, ground := .phase }, { on := 4, ground := .phase }, { on := 5, ground := .phase }, { on := 6, ground := .phase }, { on := 7, ground := .phase }, { on := 8, ground := .textOnly .appendInPlace }, { on := 9, ground := .textOnly .appendInPlace }], guard := none }) (v := .pointer (some ⟨nb, 1, none⟩)) (by kernel_rfl) (by kernel_rfl) (by kernel_rfl) (by kernel_rfl) (fun _ _ _ h => h) (Or.inl ⟨by rfl, fun w' hSw => ?_⟩) (by with_reducible assumption) ?_
      · clear hSw
        go_simp
      try simp only [Act.put, List.setIfInBounds_toArray, List.set_cons_zero, List.set_cons_succ]
      have u0 : w9.cell? ⟨nb, 1, none⟩ = some (.slice a1 N c1) := (World.cell?_of_block (a := ⟨nb, 1, none⟩) HNB9.out).trans HC1.out.1
      have u1 : w9.frozen? ⟨nb, 1, none⟩ = false := (World.frozen?_of_block (a := ⟨nb, 1, none⟩) HNB9.out).trans HC1.out.2
      have HN10 := hide1 (Ne.symm HNX.out)
      have HB10 : Hid (BoxAt ((((((w9.setCell ⟨g9, N * 6, none⟩ (.int .i64 (kind q))).setCell ⟨g9, N * 6 + 1, none⟩ (.int .i64 (from_ q))).setCell ⟨g9, N * 6 + 2, none⟩ (.int .i64 (to_ q))).setCell ⟨g9, N * 6 + 3, none⟩ (.int .i64 (min_ q))).setCell ⟨g9, N * 6 + 4, none⟩ (.int .i64 (max_ q))).setCell ⟨g9, N * 6 + 5, none⟩ (.slice ak nk ck)) gx (.int .i64 (kind q)) (.int .i64 (from_ q)) (.int .i64 (to_ q)) (.int .i64 (min_ q)) (.int .i64 (max_ q)) (.slice ak nk ck)) := (heap_put HN10.out).trans ((heap_put HN10.out).trans ((heap_put HN10.out).trans ((heap_put HN10.out).trans ((heap_put HN10.out).trans ((heap_put HN10.out).trans HB9.out)))))
      have HNG : Hid (gx ≠ nb) := by show _ ≠ _; have h1 := HP.out.lt; have h2 := HGX.out; omega
      refine two_stores w9 9 12 (oi := { dst := none, op := .store 24 (.tmp 22) (.tmp 18), type := 0, pos := "ref.go:166", after := #[{ on := 8, ground := .data }, { on := 4, ground := .data }, { on := 7, ground := .chain }, { on := 0, ground := .phase }, { on := 1, ground := .phase }, { on := 2, ground := .phase }, { on := 3, ground := .phase }, { on := 4, ground := .phase }, { on := 5, ground := .phase }, { on := 6, ground := .phase }, { on := 7, ground := .phase }, { on := 12, ground := .gcOnly .appendInPlace }], guard := none }) (oj := { dst := none, op := .store 22 (.tmp 24) (.tmp 21), type := 0, pos := "ref.go:166", after := #[{ on := 11, ground := .data }, { on := 7, ground := .data }, { on := 7, ground := .chain }, { on := 9, ground := .textOnly .appendInPlace }, { on := 0, ground := .phase }, { on := 1, ground := .phase }, { on := 2, ground := .phase }, { on := 3, ground := .phase }, { on := 4, ground := .phase }, { on := 5, ground := .phase }, { on := 6, ground := .phase }, { on := 7, ground := .phase }, { on := 8, ground := .textOnly .appendInPlace }, { on := 9, ground := .textOnly .appendInPlace }], guard := none }) (by kernel_rfl) (by kernel_rfl) (by kernel_rfl) (by kernel_rfl) (by kernel_rfl) (by kernel_rfl) (by kernel_rfl) rfl rfl rfl rfl (.tmp 22) (.tmp 18) (.tmp 24) (.tmp 21) rfl rfl g9 N c9 (.int .i64 (kind q)) (.int .i64 (from_ q)) (.int .i64 (to_ q)) (.int .i64 (min_ q)) (.int .i64 (max_ q)) (.slice ak nk ck) nb _ _ _ _ (by rfl) (by rfl) (by rfl) (by rfl) HROW.out HC9.out (one6 _ _ _ _ _ _ _ _) u0 u1 HNB.out HB10.out ((heap_put HNG.out).trans HB9.out) ((heap_put HNG.out).trans HB10.out) ?_
      clear u0 u1
      generalize ((((((w9.setCell ⟨g9, N * 6, none⟩ (.int .i64 (kind q))).setCell ⟨g9, N * 6 + 1, none⟩ (.int .i64 (from_ q))).setCell ⟨g9, N * 6 + 2, none⟩ (.int .i64 (to_ q))).setCell ⟨g9, N * 6 + 3, none⟩ (.int .i64 (min_ q))).setCell ⟨g9, N * 6 + 4, none⟩ (.int .i64 (max_ q))).setCell ⟨g9, N * 6 + 5, none⟩ (.slice ak nk ck)).setCell ⟨nb, 1, none⟩ (.slice (some ⟨g9, 0, none⟩) (N + 1) c9) = W9 at HE ⊢
      clear HB10 HB9 HROW HNB9
      go_wp2_with fail
      go_meet
      exact ⟨rfl, _, rfl, HE.out⟩
    · go_simp
      have KK := hide1 ((Kept.refl V0).alloc #[.int .i64 0, .int .i64 0, .int .i64 0, .int .i64 0, .int .i64 0, .slice none 0 0] 24)
      refine hK.out _ _ (hHeld.keep KK.out) (fun hHeld2 => ?_)
      clear hK K hHeld
      have hHeld := hHeld2
      clear hHeld2
      try simp only [Act.put, List.setIfInBounds_toArray, List.set_cons_zero, List.set_cons_succ]
      have HGS := hide1 (BoxAt.new V0 (.int .i64 0) (.int .i64 0) (.int .i64 0) (.int .i64 0) (.int .i64 0) (.slice none 0 0))
      have HV1 := hide1 (gtrans HV0.out KK.out)
      clear KK HV0
      generalize V0.alloc (.cells #[.int .i64 0, .int .i64 0, .int .i64 0, .int .i64 0, .int .i64 0, .slice none 0 0] 24) = V1 at hHeld HGS HV1 ⊢
      generalize V0.heap.size = gs at HGS ⊢
      refine wpAnyH_ready (rs := [3]) (by kernel_rfl) (by simp) ?_
      refine AllReadyH.cons (i := 3) (o := { dst := some 17, op := .load 22 (.tmp 16), type := 22, pos := "ref.go:166", after := #[{ on := 2, ground := .data }], guard := none }) (by kernel_rfl) (fun K hK => ?_) AllReadyH.nil
      have u0 : V1.cell? ⟨nb, 1, none⟩ = some (.slice a1 N c1) := grown_cell HV1.out HC1.out.1
      go_simp
      clear u0
      refine hK.out _ _ hHeld (fun hHeld2 => ?_)
      clear hK K hHeld
      have hHeld := hHeld2
      clear hHeld2
      try simp only [Act.put, List.setIfInBounds_toArray, List.set_cons_zero, List.set_cons_succ]
      refine wpAnyH_take (i := 5) (oi := { dst := some 19, op := .call { callee := .builtin .len, args := #[.tmp 17], argTypes := #[22] }, type := 3, pos := "ref.go:166", after := #[{ on := 3, ground := .data }], guard := none }) (v := .int .i64 (N : Int)) (by kernel_rfl) (by kernel_rfl) (by kernel_rfl) (by kernel_rfl) (fun _ _ _ h => h) (Or.inl ⟨by rfl, fun w' hSw => ?_⟩) (by with_reducible assumption) ?_
      · clear hSw
        go_simp
      try simp only [Act.put, List.setIfInBounds_toArray, List.set_cons_zero, List.set_cons_succ]
      refine wpAnyH_ready (rs := [7]) (by kernel_rfl) (by simp) ?_
      refine AllReadyH.cons (i := 7) (o := { dst := some 21, op := .call { callee := .builtin .append, args := #[.tmp 17, .tmp 20], argTypes := #[22, 22] }, type := 22, pos := "ref.go:166", after := #[{ on := 3, ground := .data }, { on := 6, ground := .data }, { on := 0, ground := .phase }, { on := 1, ground := .phase }, { on := 2, ground := .phase }, { on := 3, ground := .phase }, { on := 4, ground := .phase }, { on := 5, ground := .phase }, { on := 6, ground := .phase }], guard := none }) (by kernel_rfl) (fun K hK => ?_) AllReadyH.nil
      refine step_zero rfl _ _ rfl _ _ N (xs 1) (by rfl) (owns_same HR1.out (fun d hd => HV1.out.2.2.2.2 d (HR1.out.lt d hd).2)) gs (by rfl) HGS.out (by omega) ?_
      intro g9 c9 w9 ho9 hg9 hl9
      obtain ⟨hE1, hn1, hn2⟩ := e2_end (gx := gx) HP.out HV1.out HGX.out hHeld (by rw [HE1.out]; exact hg9) ho9 (by rw [HE1.out]; exact hl9)
      have HE := hide1 hE1
      have HNB := hide1 hn1
      have hrow : RowAt w9 g9 c9 := by
        rcases ho9.2 with ⟨h, _⟩ | ⟨g', c', cur, h, _, h3, _, _, h6, _⟩
        · cases h
        · simp only [Value.slice.injEq, Option.some.injEq, Addr.mk.injEq] at h
          obtain ⟨⟨rfl, _⟩, _, rfl⟩ := h
          exact ⟨cur, h3, h6⟩
      have HROW := hide1 hrow
      have HC9 : Hid (N + 1 ≤ c9) := by
        rcases ho9.2 with ⟨h, _⟩ | ⟨g', c', cur, h, _, _, h4, _⟩
        · cases h
        · simp only [Value.slice.injEq, Option.some.injEq, Addr.mk.injEq] at h
          obtain ⟨_, _, rfl⟩ := h
          exact h4
      have hbx9 : BoxAt w9 gx (.int .i64 (kind q)) (.int .i64 (from_ q)) (.int .i64 (to_ q)) (.int .i64 (min_ q)) (.int .i64 (max_ q)) (.slice ak nk ck) := (hg9.block gx hHeld.lt (fun e => by have h := (HP.out.2.2.2 1 (by omega) (by omega)).2 gx (by rw [HE1.out]; exact e.symm); have h2 := HP.out.2.2.1 gx HGX.out; omega)).trans hHeld
      have hnb9 : w9.heap[nb]? = w.heap[nb]? := (hg9.block nb (Nat.lt_of_lt_of_le HP.out.lt HV1.out.size) (fun e => by have h := (HP.out.2.2.2 1 (by omega) (by omega)).2 nb (by rw [HE1.out]; exact e.symm); have h2 := HP.out.2.1; omega)).trans (HV1.out.2.2.2.2 nb HP.out.lt)
      have HNB9 := hide1 hnb9
      have HB9 := hide1 hbx9
      have HNX := hide1 hn2
      clear ho9 hg9 hl9 hn1 hn2 hE1 hrow hbx9 hnb9
      refine hK.out _ _ HB9.out (fun hHeld2 => ?_)
      clear hK K hHeld
      have hHeld := hHeld2
      clear hHeld2
      try simp only [Act.put, List.setIfInBounds_toArray, List.set_cons_zero, List.set_cons_succ]
      have gN1 : (N : Int) < (N : Int) + 1 := by omega
      have gN2 : (N : Int) + 1 ≤ (c9 : Int) := by have := HC9.out; omega
      refine wpAnyH_take (i := 8) (oi := { dst := some 22, op := .indexAddr 22 (.tmp 21) (.tmp 19), type := 0, pos := "ref.go:166", after := #[{ on := 7, ground := .data }, { on := 5, ground := .data }, { on := 0, ground := .phase }, { on := 1, ground := .phase }, { on := 2, ground := .phase }, { on := 3, ground := .phase }, { on := 4, ground := .phase }, { on := 5, ground := .phase }, { on := 6, ground := .phase }, { on := 7, ground := .phase }, { on := 12, ground := .gcOnly .appendInPlace }], guard := none }) (v := .pointer (some ⟨g9, N * 6, none⟩)) (by kernel_rfl) (by kernel_rfl) (by kernel_rfl) (by kernel_rfl) (fun _ _ _ h => h) (Or.inl ⟨by rfl, fun w' hSw => ?_⟩) (by with_reducible assumption) ?_
      · clear hSw
        go_simp
      try simp only [Act.put, List.setIfInBounds_toArray, List.set_cons_zero, List.set_cons_succ]
      refine wpAnyH_take (i := 10) (oi := { dst := some 23, op := .nilCheck (.tmp 14), type := 0, pos := "ref.go:166", after := #[{ on := 0, ground := .data }, { on := 0, ground := .phase }, { on := 1, ground := .phase }, { on := 2, ground := .phase }, { on := 3, ground := .phase }, { on := 4, ground := .phase }, { on := 5, ground := .phase }, { on := 6, ground := .phase }, { on := 7, ground := .phase }, { on := 8, ground := .textOnly .appendInPlace }, { on := 9, ground := .textOnly .appendInPlace }], guard := none }) (v := .pointer (some ⟨nb, 0, none⟩)) (by kernel_rfl) (by kernel_rfl) (by kernel_rfl) (by kernel_rfl) (fun _ _ _ h => h) (Or.inl ⟨by rfl, fun w' hSw => ?_⟩) (by with_reducible assumption) ?_
      · clear hSw
        go_simp
      try simp only [Act.put, List.setIfInBounds_toArray, List.set_cons_zero, List.set_cons_succ]
      refine wpAnyH_take (i := 11) (oi := { dst := some 24, op := .fieldAddr 66 (.tmp 23) 1, type := 0, pos := "ref.go:166", after := #[{ on := 10, ground := .data }, { on := 0, ground := .phase }, { on := 1, ground := .phase }, { on := 2, ground := .phase }, { on := 3, ground := .phase }, { on := 4, ground := .phase }, { on := 5, ground := .phase }, { on := 6, ground := .phase }, { on := 7, ground := .phase }, { on := 8, ground := .textOnly .appendInPlace }, { on := 9, ground := .textOnly .appendInPlace }], guard := none }) (v := .pointer (some ⟨nb, 1, none⟩)) (by kernel_rfl) (by kernel_rfl) (by kernel_rfl) (by kernel_rfl) (fun _ _ _ h => h) (Or.inl ⟨by rfl, fun w' hSw => ?_⟩) (by with_reducible assumption) ?_
      · clear hSw
        go_simp
      try simp only [Act.put, List.setIfInBounds_toArray, List.set_cons_zero, List.set_cons_succ]
      have u0 : w9.cell? ⟨nb, 1, none⟩ = some (.slice a1 N c1) := (World.cell?_of_block (a := ⟨nb, 1, none⟩) HNB9.out).trans HC1.out.1
      have u1 : w9.frozen? ⟨nb, 1, none⟩ = false := (World.frozen?_of_block (a := ⟨nb, 1, none⟩) HNB9.out).trans HC1.out.2
      have HN10 := hide1 (Ne.symm HNX.out)
      have HB10 : Hid (BoxAt ((((((w9.setCell ⟨g9, N * 6, none⟩ (.int .i64 (kind q))).setCell ⟨g9, N * 6 + 1, none⟩ (.int .i64 (from_ q))).setCell ⟨g9, N * 6 + 2, none⟩ (.int .i64 (to_ q))).setCell ⟨g9, N * 6 + 3, none⟩ (.int .i64 (min_ q))).setCell ⟨g9, N * 6 + 4, none⟩ (.int .i64 (max_ q))).setCell ⟨g9, N * 6 + 5, none⟩ (.slice ak nk ck)) gx (.int .i64 (kind q)) (.int .i64 (from_ q)) (.int .i64 (to_ q)) (.int .i64 (min_ q)) (.int .i64 (max_ q)) (.slice ak nk ck)) := (heap_put HN10.out).trans ((heap_put HN10.out).trans ((heap_put HN10.out).trans ((heap_put HN10.out).trans ((heap_put HN10.out).trans ((heap_put HN10.out).trans HB9.out)))))
      have HNG : Hid (gx ≠ nb) := by show _ ≠ _; have h1 := HP.out.lt; have h2 := HGX.out; omega
      refine two_stores w9 9 12 (oi := { dst := none, op := .store 24 (.tmp 22) (.tmp 18), type := 0, pos := "ref.go:166", after := #[{ on := 8, ground := .data }, { on := 4, ground := .data }, { on := 7, ground := .chain }, { on := 0, ground := .phase }, { on := 1, ground := .phase }, { on := 2, ground := .phase }, { on := 3, ground := .phase }, { on := 4, ground := .phase }, { on := 5, ground := .phase }, { on := 6, ground := .phase }, { on := 7, ground := .phase }, { on := 12, ground := .gcOnly .appendInPlace }], guard := none }) (oj := { dst := none, op := .store 22 (.tmp 24) (.tmp 21), type := 0, pos := "ref.go:166", after := #[{ on := 11, ground := .data }, { on := 7, ground := .data }, { on := 7, ground := .chain }, { on := 9, ground := .textOnly .appendInPlace }, { on := 0, ground := .phase }, { on := 1, ground := .phase }, { on := 2, ground := .phase }, { on := 3, ground := .phase }, { on := 4, ground := .phase }, { on := 5, ground := .phase }, { on := 6, ground := .phase }, { on := 7, ground := .phase }, { on := 8, ground := .textOnly .appendInPlace }, { on := 9, ground := .textOnly .appendInPlace }], guard := none }) (by kernel_rfl) (by kernel_rfl) (by kernel_rfl) (by kernel_rfl) (by kernel_rfl) (by kernel_rfl) (by kernel_rfl) rfl rfl rfl rfl (.tmp 22) (.tmp 18) (.tmp 24) (.tmp 21) rfl rfl g9 N c9 (.int .i64 (kind q)) (.int .i64 (from_ q)) (.int .i64 (to_ q)) (.int .i64 (min_ q)) (.int .i64 (max_ q)) (.slice ak nk ck) nb _ _ _ _ (by rfl) (by rfl) (by rfl) (by rfl) HROW.out HC9.out (one6 _ _ _ _ _ _ _ _) u0 u1 HNB.out HB10.out ((heap_put HNG.out).trans HB9.out) ((heap_put HNG.out).trans HB10.out) ?_
      clear u0 u1
      generalize ((((((w9.setCell ⟨g9, N * 6, none⟩ (.int .i64 (kind q))).setCell ⟨g9, N * 6 + 1, none⟩ (.int .i64 (from_ q))).setCell ⟨g9, N * 6 + 2, none⟩ (.int .i64 (to_ q))).setCell ⟨g9, N * 6 + 3, none⟩ (.int .i64 (min_ q))).setCell ⟨g9, N * 6 + 4, none⟩ (.int .i64 (max_ q))).setCell ⟨g9, N * 6 + 5, none⟩ (.slice ak nk ck)).setCell ⟨nb, 1, none⟩ (.slice (some ⟨g9, 0, none⟩) (N + 1) c9) = W9 at HE ⊢
      clear HB10 HB9 HROW HNB9
      go_wp2_with fail
      go_meet
      exact ⟨rfl, _, rfl, HE.out⟩
  case rest =>
    obtain ⟨rfl, w2, hw2, R2, g9, c9, HP2, HRK2, HRX2, HB2, HG2⟩ := hcut
    subst hw2
    clear HBX HK1 HR1 HC1
    have HR22 : Hid (w2.ownsRow 0 46 1 (.slice a2 N c2) N (xs 2)) := by
      have h := (HP2.out.2.2.2 2 (by omega) (by omega)).1
      have h : w2.ownsRow 0 46 1 (f 2) N (xs 2) := h
      rw [HE2.out] at h
      exact h
    have u22 : w2.cell? ⟨nb, 2, none⟩ = some (.slice a2 N c2) := (HP2.out.cells 2 (by omega)).1.trans (congrArg some HE2.out)
    go_upto_region 4 with (at_builtin; refine wpl_nil rfl _ _ 62 46 Tryz.underlying62 nil_info rfl w2 _ N (xs 2) _ (by rfl) HR22.out (by rfl) (by omega) ?_; intro g22 d22 w22 h1 h2 h3; have HO22 := hide1 h1; have HG22 := hide1 h2; have HL22 := hide1 h3; have hn22 := HP2.out.still 2 (by omega) (by omega) (show (w2.alloc (.cells #[.slice none 0 0] _)).grownBy w22 (f 2).ownBlock from (by rw [HE2.out]; exact h2)); have v22 : w22.cell? ⟨nb, 2, none⟩ = some (.slice a2 N c2) := (World.cell?_of_block (a := ⟨nb, 2, none⟩) hn22).trans u22; have z22 : w22.frozen? ⟨nb, 2, none⟩ = false := (World.frozen?_of_block (a := ⟨nb, 2, none⟩) hn22).trans (HP2.out.cells 2 (by omega)).2; clear h1 h2 h3 hn22)
    clear u22 v22 z22 HR22
    obtain ⟨R3, HP3, p1, p2, _⟩ := HP2.out.grow 2 (by omega) (by omega) ((Kept.refl w2).alloc #[.slice none 0 0] 46) (show (w2.alloc (.cells #[.slice none 0 0] 46)).grownBy w22 (f 2).ownBlock by rw [HE2.out]; exact HG22.out) HO22.out (show (f 2).ownBlock = some g22 ∨ w2.heap.size ≤ g22 by rw [HE2.out]; exact HL22.out)
    have HP3 := hide1 HP3
    obtain ⟨w3, hw22⟩ : ∃ w3, w22.setCell ⟨nb, 2, none⟩ (.slice (some ⟨g22, 0, none⟩) (N + 1) d22) = w3 := ⟨_, rfl⟩
    rw [hw22] at HP3 p1 ⊢
    have HRK3 : Hid (RK R w w3) := HRK2.out.trans HRX2.out p1
    have HRX3 : Hid (RX R R3 w) := HRX2.out.trans HRK2.out.size p2
    have HB3 : Hid (BoxAt w3 gx (.int .i64 (kind q)) (.int .i64 (from_ q)) (.int .i64 (to_ q)) (.int .i64 (min_ q)) (.int .i64 (max_ q)) (.slice ak nk ck)) := (p1.same HB2.out.lt (.inl HG2.out)).trans HB2.out
    have HG3 : Hid (R3 gx = 0) := (p2 gx HB2.out.lt).trans HG2.out
    clear hw22 p1 p2 HO22 HG22 HL22
    have HR23 : Hid (w3.ownsRow 0 62 1 (.slice a3 N c3) N (xs 3)) := by
      have h := (HP3.out.2.2.2 3 (by omega) (by omega)).1
      have h : w3.ownsRow 0 62 1 (f 3) N (xs 3) := h
      rw [HE3.out] at h
      exact h
    have u23 : w3.cell? ⟨nb, 3, none⟩ = some (.slice a3 N c3) := (HP3.out.cells 3 (by omega)).1.trans (congrArg some HE3.out)
    go_upto_region 5 with (at_builtin; refine wpl_nil rfl _ _ 63 62 Tryz.underlying63 nil2_info rfl w3 _ N (xs 3) _ (by rfl) HR23.out (by rfl) (by omega) ?_; intro g23 d23 w23 h1 h2 h3; have HO23 := hide1 h1; have HG23 := hide1 h2; have HL23 := hide1 h3; have hn23 := HP3.out.still 3 (by omega) (by omega) (show (w3.alloc (.cells #[.slice none 0 0] _)).grownBy w23 (f 3).ownBlock from (by rw [HE3.out]; exact h2)); have v23 : w23.cell? ⟨nb, 3, none⟩ = some (.slice a3 N c3) := (World.cell?_of_block (a := ⟨nb, 3, none⟩) hn23).trans u23; have z23 : w23.frozen? ⟨nb, 3, none⟩ = false := (World.frozen?_of_block (a := ⟨nb, 3, none⟩) hn23).trans (HP3.out.cells 3 (by omega)).2; clear h1 h2 h3 hn23)
    clear u23 v23 z23 HR23
    obtain ⟨R4, HP4, p1, p2, _⟩ := HP3.out.grow 3 (by omega) (by omega) ((Kept.refl w3).alloc #[.slice none 0 0] 62) (show (w3.alloc (.cells #[.slice none 0 0] 62)).grownBy w23 (f 3).ownBlock by rw [HE3.out]; exact HG23.out) HO23.out (show (f 3).ownBlock = some g23 ∨ w3.heap.size ≤ g23 by rw [HE3.out]; exact HL23.out)
    have HP4 := hide1 HP4
    obtain ⟨w4, hw23⟩ : ∃ w4, w23.setCell ⟨nb, 3, none⟩ (.slice (some ⟨g23, 0, none⟩) (N + 1) d23) = w4 := ⟨_, rfl⟩
    rw [hw23] at HP4 p1 ⊢
    have HRK4 : Hid (RK R w w4) := HRK3.out.trans HRX3.out p1
    have HRX4 : Hid (RX R R4 w) := HRX3.out.trans HRK3.out.size p2
    have HB4 : Hid (BoxAt w4 gx (.int .i64 (kind q)) (.int .i64 (from_ q)) (.int .i64 (to_ q)) (.int .i64 (min_ q)) (.int .i64 (max_ q)) (.slice ak nk ck)) := (p1.same HB3.out.lt (.inl HG3.out)).trans HB3.out
    have HG4 : Hid (R4 gx = 0) := (p2 gx HB3.out.lt).trans HG3.out
    clear hw23 p1 p2 HO23 HG23 HL23
    have HR24 : Hid (w4.ownsRow 0 67 1 (.slice a4 N c4) N (xs 4)) := by
      have h := (HP4.out.2.2.2 4 (by omega) (by omega)).1
      have h : w4.ownsRow 0 67 1 (f 4) N (xs 4) := h
      rw [HE4.out] at h
      exact h
    have u24 : w4.cell? ⟨nb, 4, none⟩ = some (.slice a4 N c4) := (HP4.out.cells 4 (by omega)).1.trans (congrArg some HE4.out)
    go_upto_region 6 with (at_builtin; refine wpl_nil rfl _ _ 64 67 Tryz.underlying64 nilb_info rfl w4 _ N (xs 4) _ (by rfl) HR24.out (by rfl) (by omega) ?_; intro g24 d24 w24 h1 h2 h3; have HO24 := hide1 h1; have HG24 := hide1 h2; have HL24 := hide1 h3; have hn24 := HP4.out.still 4 (by omega) (by omega) (show (w4.alloc (.cells #[.slice none 0 0] _)).grownBy w24 (f 4).ownBlock from (by rw [HE4.out]; exact h2)); have v24 : w24.cell? ⟨nb, 4, none⟩ = some (.slice a4 N c4) := (World.cell?_of_block (a := ⟨nb, 4, none⟩) hn24).trans u24; have z24 : w24.frozen? ⟨nb, 4, none⟩ = false := (World.frozen?_of_block (a := ⟨nb, 4, none⟩) hn24).trans (HP4.out.cells 4 (by omega)).2; clear h1 h2 h3 hn24)
    clear u24 v24 z24 HR24
    obtain ⟨R5, HP5, p1, p2, _⟩ := HP4.out.grow 4 (by omega) (by omega) ((Kept.refl w4).alloc #[.slice none 0 0] 67) (show (w4.alloc (.cells #[.slice none 0 0] 67)).grownBy w24 (f 4).ownBlock by rw [HE4.out]; exact HG24.out) HO24.out (show (f 4).ownBlock = some g24 ∨ w4.heap.size ≤ g24 by rw [HE4.out]; exact HL24.out)
    have HP5 := hide1 HP5
    obtain ⟨w5, hw24⟩ : ∃ w5, w24.setCell ⟨nb, 4, none⟩ (.slice (some ⟨g24, 0, none⟩) (N + 1) d24) = w5 := ⟨_, rfl⟩
    rw [hw24] at HP5 p1 ⊢
    have HRK5 : Hid (RK R w w5) := HRK4.out.trans HRX4.out p1
    have HRX5 : Hid (RX R R5 w) := HRX4.out.trans HRK4.out.size p2
    have HB5 : Hid (BoxAt w5 gx (.int .i64 (kind q)) (.int .i64 (from_ q)) (.int .i64 (to_ q)) (.int .i64 (min_ q)) (.int .i64 (max_ q)) (.slice ak nk ck)) := (p1.same HB4.out.lt (.inl HG4.out)).trans HB4.out
    have HG5 : Hid (R5 gx = 0) := (p2 gx HB4.out.lt).trans HG4.out
    clear hw24 p1 p2 HO24 HG24 HL24
    have HR25 : Hid (w5.ownsRow 0 46 1 (.slice a5 N c5) N (xs 5)) := by
      have h := (HP5.out.2.2.2 5 (by omega) (by omega)).1
      have h : w5.ownsRow 0 46 1 (f 5) N (xs 5) := h
      rw [HE5.out] at h
      exact h
    have u25 : w5.cell? ⟨nb, 5, none⟩ = some (.slice a5 N c5) := (HP5.out.cells 5 (by omega)).1.trans (congrArg some HE5.out)
    go_upto_region 7 with (at_builtin; refine wpl_nil rfl _ _ 62 46 Tryz.underlying62 nil_info rfl w5 _ N (xs 5) _ (by rfl) HR25.out (by rfl) (by omega) ?_; intro g25 d25 w25 h1 h2 h3; have HO25 := hide1 h1; have HG25 := hide1 h2; have HL25 := hide1 h3; have hn25 := HP5.out.still 5 (by omega) (by omega) (show (w5.alloc (.cells #[.slice none 0 0] _)).grownBy w25 (f 5).ownBlock from (by rw [HE5.out]; exact h2)); have v25 : w25.cell? ⟨nb, 5, none⟩ = some (.slice a5 N c5) := (World.cell?_of_block (a := ⟨nb, 5, none⟩) hn25).trans u25; have z25 : w25.frozen? ⟨nb, 5, none⟩ = false := (World.frozen?_of_block (a := ⟨nb, 5, none⟩) hn25).trans (HP5.out.cells 5 (by omega)).2; clear h1 h2 h3 hn25)
    clear u25 v25 z25 HR25
    obtain ⟨R6, HP6, p1, p2, _⟩ := HP5.out.grow 5 (by omega) (by omega) ((Kept.refl w5).alloc #[.slice none 0 0] 46) (show (w5.alloc (.cells #[.slice none 0 0] 46)).grownBy w25 (f 5).ownBlock by rw [HE5.out]; exact HG25.out) HO25.out (show (f 5).ownBlock = some g25 ∨ w5.heap.size ≤ g25 by rw [HE5.out]; exact HL25.out)
    have HP6 := hide1 HP6
    obtain ⟨w6, hw25⟩ : ∃ w6, w25.setCell ⟨nb, 5, none⟩ (.slice (some ⟨g25, 0, none⟩) (N + 1) d25) = w6 := ⟨_, rfl⟩
    rw [hw25] at HP6 p1 ⊢
    have HRK6 : Hid (RK R w w6) := HRK5.out.trans HRX5.out p1
    have HRX6 : Hid (RX R R6 w) := HRX5.out.trans HRK5.out.size p2
    have HB6 : Hid (BoxAt w6 gx (.int .i64 (kind q)) (.int .i64 (from_ q)) (.int .i64 (to_ q)) (.int .i64 (min_ q)) (.int .i64 (max_ q)) (.slice ak nk ck)) := (p1.same HB5.out.lt (.inl HG5.out)).trans HB5.out
    have HG6 : Hid (R6 gx = 0) := (p2 gx HB5.out.lt).trans HG5.out
    clear hw25 p1 p2 HO25 HG25 HL25
    have HA6 : Hid (NetA R6 w6 nb vB (ND ++ [mkN (kind q) (from_ q) (to_ q) (min_ q) (max_ q) []])) := by
      refine netA_more HP.out ?_ HP6.out HF.out HKO.out HN3.out HN4.out HN5.out HN.out.symm (fun j j1 j5 => ?_) (kind q) (from_ q) (to_ q) (min_ q) (max_ q) ak nk ck rfl rfl rfl rfl rfl HRK6.out HRX6.out
      · exact HF0.out
      · rw [HN.out]
        match j, j1, j5 with
        | 1, _, _ => rfl
        | 2, _, _ => rfl
        | 3, _, _ => rfl
        | 4, _, _ => rfl
        | 5, _, _ => rfl
    clear HP2 HP3 HP4 HP5 HP6 HRK2 HRK3 HRK4 HRK5 HRX2 HRX3 HRX4 HRX5 HB2 HB3 HB4 HB5 HG2 HG3 HG4 HG5 HE1 HE2 HE3 HE4 HE5 HF0 HF HKO HN3 HN4 HN5 HP
    obtain ⟨bs, hbs⟩ : ∃ bs, (kids q).map (foldN nodeF n) = bs := ⟨_, rfl⟩
    have HBS := hide1 hbs
    have HBL : Hid (bs.length = nk) := by show _ = _; rw [← hbs, List.length_map]; exact HNK.out
    clear hbs
    have HGX6 : Hid (gx < w6.heap.size) := HB6.out.lt
    obtain ⟨base, hbase⟩ : ∃ base, w6.heap.size = base := ⟨_, rfl⟩
    have HBASE : Hid (w.heap.size ≤ base ∧ gx < base) := by rw [← hbase]; exact ⟨HRK6.out.size, HGX6.out⟩
    have HBS6 : Hid (base ≤ w6.heap.size) := by rw [hbase]; exact Nat.le_refl _
    clear hbase
    obtain ⟨⟨_, _, _, _, _, x5⟩, _⟩ := HB6.out.facts
    go_wp2_with fail
    clear x5
    go_loopw [6, 7] (AdR nb vB ND (mkN (kind q) (from_ q) (to_ q) (min_ q) (max_ q) []) bs R w gx base (fun wr => BoxAt wr gx (.int .i64 (kind q)) (.int .i64 (from_ q)) (.int .i64 (to_ q)) (.int .i64 (min_ q)) (.int .i64 (max_ q)) (.slice ak nk ck))) (fun _ k _ => nk - (intOf k).toNat)
    case atStart => exact ⟨0, R6, [], rfl, Nat.zero_le _, rfl, HA6, PlO.nil _ _, (fun g hg => by cases hg), HRK6, HRX6, HB6, ⟨HG6.out, HGX6.out⟩, HBS6⟩
    case round =>
      obtain ⟨w7, hw7⟩ : ∃ w7, w7 = wr := ⟨_, rfl⟩
      subst hw7
      obtain ⟨k, R7, l, rfl, hk, HLS, HA7, HO7, HOR7, HRK7, HRX7, HB7, HG7, HBS7⟩ := hrel
      rw [HBL.out] at hk
      obtain ⟨a7, c7, rfl⟩ := HO7.out.form
      obtain ⟨nl, hnl⟩ : ∃ nl, l.length = nl := ⟨_, rfl⟩
      have HNL := hide1 hnl
      have gnl : nl ≤ 5000 := by
        have h := HLS.out
        have h2 := numsB_len (bs.take k) (ND.length + 1)
        rw [← h, hnl, List.length_take] at h2
        omega
      rw [hnl] at HO7 HOR7 ⊢
      clear hnl
      obtain ⟨⟨_, _, _, _, _, x5⟩, _⟩ := HB7.out.facts
      by_cases hlt : (k : Int) < (nk : Int)
      · obtain ⟨r, hr⟩ : ∃ r, (kids q)[k]? = some r := ⟨_, List.getElem?_eq_getElem (by have := HNK.out; omega)⟩
        have HKW : KidsAt (fun d => d < w7.heap.size ∧ R7 d = 0) w7 (n + 1) (kids q) (.slice ak nk ck) := KidsAt.mono (fun b o v hb hc => (World.cell?_of_block (a := ⟨b, o, none⟩) (HRK7.out.same hb.1 (.inl hb.2))).trans hc) (fun d hd => ⟨Nat.lt_of_lt_of_le hd.1 HRK7.out.size, (HRX7.out d hd.1).trans hd.2⟩) _ _ _ HKQ.out
        obtain ⟨a8, cap8, e8, hcap, _, h4⟩ := HKW
        simp only [Value.slice.injEq] at e8
        obtain ⟨rfl, e8n, rfl⟩ := e8
        clear e8n
        rcases h4 with h4 | ⟨cb, o, rfl, hSc, h7⟩
        · rw [h4] at hr; simp at hr
        · obtain ⟨v', g0, g1, g2, g3, g4, g5, g6⟩ := h7 k r hr
          obtain ⟨a3, cap3, rfl⟩ := g6.form
          have HG8 := hide1 g6
          have HCR : Hid (AddC n r) := HC.out r (List.mem_of_getElem? hr)
          have HBK : Hid (bs[k]? = some (foldN nodeF n r)) := by show _ = _; rw [← HBS.out, List.getElem?_map, hr]; rfl
          have HTK : Hid (bs.take (k + 1) = bs.take k ++ [foldN nodeF n r]) := by show _ = _; rw [List.take_add_one, HBK.out]; rfl
          have gkc : (k : Int) < (ck : Int) := by have := HNK.out; omega
          obtain ⟨M, hM⟩ : ∃ M, (ND ++ mkN (kind q) (from_ q) (to_ q) (min_ q) (max_ q) [] :: catB (bs.take k) (ND.length + 1)).length = M := ⟨_, rfl⟩
          have HM := hide1 hM
          have HM2 : Hid (M = ND.length + 1 + (catB (bs.take k) (ND.length + 1)).length) := by show _ = _; rw [← hM, List.length_append, List.length_cons]; omega
          have HLEN : Hid (M + (nodesN n r M).length ≤ 5000) := by
            have h1 := catB_take bs (k + 1) (ND.length + 1)
            rw [HTK.out, catB_snoc, List.length_append, ← HM2.out] at h1
            have h2 := HLN.out
            have h3 : (nodesN (n + 1) q ND.length).length = (catB bs (ND.length + 1)).length + 1 := by rw [← HBS.out]; rfl
            have h4 := HM2.out
            have h5 : (nodesN n r M).length = (foldN nodeF n r M).length := rfl
            show _ ≤ _
            omega
          clear h7 g6 hr hM hcap hSc
          go_wp2_with (first
            | (go_at_call 30; refine (HCR.out R7 nb vB _ _ w7 HA7.out HG8.out (by rw [HM.out]; exact HLEN.out)).mono ?_; rintro e w8 ⟨R8, m8, rfl, HM8, HA8, HK8, HX8⟩; have HO8 : Hid (PlO w8 base (.slice a7 nl c7) l) := HO7.out.same (fun g hg => HK8.out.same (HO7.out.lt g hg).2 (.inl (HOR7.out g hg))))
            | (at_builtin; refine wpl_place rfl _ _ rfl w8 base _ l nl HNL.out m8 _ (by rfl) HO8.out (by rfl) (by omega) (Nat.le_trans HBS7.out HK8.out.size) ?_; intro g9 c9 w9 h1 h2 h3; have HO9 := hide1 h1; have HG9 := hide1 h2; have HL9 := hide1 h3; clear h1 h2 h3))
          go_roundw
          case rel =>
            have hkk : Kept w8 (w8.alloc (.cells #[.int .i64 (m8 : Int)] 3)) := (Kept.refl w8).alloc _ _
            have hsame : ∀ d, d < w8.heap.size → (Value.slice a7 nl c7).ownBlock ≠ some d → w9.heap[d]? = w8.heap[d]? := fun d hd hne => (HG9.out.block d (Nat.lt_of_lt_of_le hd hkk.size) (fun e => hne e.symm)).trans (hkk.2.2.2.2 d hd)
            have hsz : w8.heap.size ≤ w9.heap.size := Nat.le_trans hkk.size HG9.out.size
            have hrole : ∀ g, (Value.slice a7 nl c7).ownBlock = some g → R8 g = 0 := fun g hg => (HX8.out g (HO7.out.lt g hg).2).trans (HOR7.out g hg)
            have hown : ∀ d, d < base → (Value.slice a7 nl c7).ownBlock ≠ some d := fun d hd e => by have := (HO7.out.lt d e).1; omega
            have hb := HBASE.out
            have h78 := HK8.out.size
            have h7 := HRK7.out.size
            refine ⟨k + 1, R8, l ++ [m8], by go_num, by rw [HBL.out]; omega, ?_, ?_, HO9, ?_, ?_, HRX7.out.trans HRK7.out.size HX8.out, ?_, ?_, ?_⟩
            · show _ = _
              rw [HTK.out, numsB_snoc, ← HLS.out, HM8.out, HM.out, HM2.out]
            · have h := HA8.out.same hsz (fun d hd hr => hsame d hd (fun e => hr (hrole d e)))
              have e : (ND ++ mkN (kind q) (from_ q) (to_ q) (min_ q) (max_ q) [] :: catB (bs.take (k + 1)) (ND.length + 1)) = (ND ++ mkN (kind q) (from_ q) (to_ q) (min_ q) (max_ q) [] :: catB (bs.take k) (ND.length + 1)) ++ nodesN n r (ND ++ mkN (kind q) (from_ q) (to_ q) (min_ q) (max_ q) [] :: catB (bs.take k) (ND.length + 1)).length := by
                rw [HM.out, HTK.out, catB_snoc, ← HM2.out, List.append_assoc]
                rfl
              rw [e]
              exact h
            · intro g hg
              simp only [Value.ownBlock, Option.some.injEq] at hg
              subst hg
              rcases HL9.out with h | h
              · exact hrole g9 h
              · exact HA8.out.zero (by omega)
            · refine ⟨HG9.out.os.trans (HK8.out.1.trans HRK7.out.1), HG9.out.tape.trans (HK8.out.2.1.trans HRK7.out.2.1), HG9.out.output.trans (HK8.out.2.2.1.trans HRK7.out.2.2.1), by omega, fun d hd => ?_⟩
              refine (hsame d (by have := hd.1; omega) (hown d (by have := hd.1; omega))).trans ((HK8.out.same (by have := hd.1; omega) ?_).trans (HRK7.out.same hd.1 hd.2))
              rw [HRX7.out d hd.1]
              exact hd.2
            · exact (hsame gx (by have := HG7.out.2; omega) (hown gx hb.2)).trans ((HK8.out.same HG7.out.2 (.inl HG7.out.1)).trans HB7.out)
            · exact ⟨(HX8.out gx HG7.out.2).trans HG7.out.1, by have := HG7.out.2; omega⟩
            · have := HBS7.out
              show _ ≤ _
              omega
          case measure => simp [intOf]; omega
      · have hke : bs.take k = bs := List.take_of_length_le (by have := HBL.out; omega)
        have HLS2 : Hid (l = numsB bs (ND.length + 1)) := by have h := HLS.out; rw [hke] at h; exact h
        have HA8 : Hid (NetA R7 w7 nb vB (ND ++ mkN (kind q) (from_ q) (to_ q) (min_ q) (max_ q) [] :: catB bs (ND.length + 1))) := by have h := HA7.out; rw [hke] at h; exact h
        have hlL : l.length ≤ 900000 := by have := HNL.out; omega
        obtain ⟨bk, cbk, ⟨y1, y2, ⟨y3, y4⟩, y5⟩, R9, hA9, hk9, hx9⟩ := HA8.out.tell (i := N) (nd' := mkN (kind q) (from_ q) (to_ q) (min_ q) (max_ q) l) (getElem_snoc_at HN.out) ⟨rfl, rfl, rfl, rfl, rfl⟩ rfl HO7.out hlL HOR7.out
        have HA9 := hide1 hA9
        have HK9 := hide1 hk9
        have HX9 := hide1 hx9
        obtain ⟨M, hM⟩ : ∃ M, (ND ++ mkN (kind q) (from_ q) (to_ q) (min_ q) (max_ q) [] :: catB bs (ND.length + 1)).length = M := ⟨_, rfl⟩
        rw [hM] at y1 y2
        have gNM : (N : Int) < (M : Int) := by
          have h := HN.out
          rw [List.length_append, List.length_cons] at hM
          omega
        clear hA9 hk9 hx9 hM hke hlL
        go_wp2_with fail
        go_ret
        refine ⟨R9, N, rfl, HN.out.symm, ?_, HRK7.out.trans HRX7.out HK9.out, fun d hd => ?_⟩
        · have h := HA9.out
          rw [set_snoc_at HN.out, HLS2.out] at h
          have e : nodesN (n + 1) q ND.length = mkN (kind q) (from_ q) (to_ q) (min_ q) (max_ q) (numsB bs (ND.length + 1)) :: catB bs (ND.length + 1) := by rw [← HBS.out]; rfl
          rw [e]
          exact h
        · refine (HX9.out d (fun e => ?_)).trans (HRX7.out d hd)
          have h1 := (HO7.out.lt d e).1
          have h2 := HBASE.out.1
          omega

end Ex
end Go.Proofs.YtlgojnodhbmlkaaGreatDoor
namespace Go.Proofs.YtlgojnodhbmlkaaGreatDoor
open Go.RowKit
namespace Ex

/-- What the values of a pattern match, in the order in which they are met. -/
def langsF (k a b mn mx : Int) (ls : List ((List Int → Prop) × List (List Int → Prop))) : (List Int → Prop) × List (List Int → Prop) :=
  (langF k a b mn mx (ls.map Prod.fst), langF k a b mn mx (ls.map Prod.fst) :: (ls.map Prod.snd).flatten)
def langsN (n : Nat) (q : PatN (n + 1)) : List (List Int → Prop) := (foldN langsF n q).2
theorem langs_fst : ∀ (n : Nat) (q : PatN (n + 1)), (foldN langsF n q).1 = LangN n q
  | 0, q => rfl
  | n + 1, q => by
    show langF (kind q) (from_ q) (to_ q) (min_ q) (max_ q) (((kids q).map (foldN langsF n)).map Prod.fst) = langF (kind q) (from_ q) (to_ q) (min_ q) (max_ q) ((kids q).map (LangN n))
    rw [List.map_map]
    congr 1
    exact List.map_congr_left (fun r _ => langs_fst n r)
theorem langs0 (q : PatN (0 + 1)) : langsN 0 q = [LangN 0 q] := rfl
theorem langsS (n : Nat) (q : PatN (n + 1 + 1)) : langsN (n + 1) q = LangN (n + 1) q :: ((kids q).map (langsN n)).flatten := by
  show langF (kind q) (from_ q) (to_ q) (min_ q) (max_ q) (((kids q).map (foldN langsF n)).map Prod.fst) :: (((kids q).map (foldN langsF n)).map Prod.snd).flatten = _
  have h := langs_fst (n + 1) q
  have h : langF (kind q) (from_ q) (to_ q) (min_ q) (max_ q) (((kids q).map (foldN langsF n)).map Prod.fst) = LangN (n + 1) q := h
  rw [h, List.map_map]
  rfl
theorem nodes0 (q : PatN (0 + 1)) (i : Nat) : nodesN 0 q i = [mkN (kind q) (from_ q) (to_ q) (min_ q) (max_ q) []] := rfl
theorem nodesS (n : Nat) (q : PatN (n + 1 + 1)) (i : Nat) : nodesN (n + 1) q i = mkN (kind q) (from_ q) (to_ q) (min_ q) (max_ q) (numsB ((kids q).map (nodesN n)) (i + 1)) :: catB ((kids q).map (nodesN n)) (i + 1) := rfl
theorem catB_len {α : Type} {f : α → Nat → List NodeT} {g : α → List (List Int → Prop)} : ∀ (ks : List α) (i : Nat), (∀ r ∈ ks, ∀ i, (f r i).length = (g r).length) → (catB (ks.map f) i).length = ((ks.map g).flatten).length
  | [], _, _ => rfl
  | r :: ks, i, h => by
    show (f r i ++ catB (ks.map f) (i + (f r i).length)).length = (g r ++ (ks.map g).flatten).length
    rw [List.length_append, List.length_append, h r (List.mem_cons_self ..), catB_len ks _ (fun r' hr => h r' (List.mem_cons_of_mem _ hr))]
theorem nodes_langs : ∀ (n : Nat) (q : PatN (n + 1)) (i : Nat), (nodesN n q i).length = (langsN n q).length
  | 0, _, _ => rfl
  | n + 1, q, i => by
    rw [nodesS, langsS, List.length_cons, List.length_cons, catB_len (g := langsN n) (kids q) (i + 1) (fun r _ i => nodes_langs n r i)]
/-- One value, by its parts. -/
theorem node_ok {n : Nat} {q : PatN (n + 1)} {N i : Nat} {Ls : Nat → List Int → Prop} {S : PatN n → List Int → Prop} {ks : List Nat} (hr : rightP (n + 1) q = true) (hl : (kids q).length ≤ 4096) (e : ∀ u, LangN n q u = langF (kind q) (from_ q) (to_ q) (min_ q) (max_ q) ((kids q).map S) u) (hks : ks.map Ls = (kids q).map S) (hk : ∀ k ∈ ks, i < k ∧ k < N) (hi : Ls i = LangN n q) : NodeOk N Ls i (mkN (kind q) (from_ q) (to_ q) (min_ q) (max_ q) ks) := by
  have h' : (topOf q && (kids q).all (rightP n)) = true := hr
  rw [Bool.and_eq_true] at h'
  have ht := h'.1
  unfold topOf topP at ht
  have hlen : ks.length = (kids q).length := by have := congrArg List.length hks; simpa using this
  refine ⟨hk, by omega, ⟨_, by rw [hi]; exact (short_best n q hr).1⟩, ?_⟩
  by_cases k1 : kind q = 1
  · rw [if_pos k1] at ht
    simp at ht
    have w1 : IntKind.u8.wrap (from_ q) = from_ q := by rw [IntKind.wrap_u8]; omega
    have w2 : IntKind.u8.wrap (to_ q) = to_ q := by rw [IntKind.wrap_u8]; omega
    refine .inl ⟨k1, by omega, by omega, fun u => ?_⟩
    rw [hi, e]
    unfold langF
    rw [if_pos k1, w1, w2]
  rw [if_neg k1] at ht
  by_cases k2 : kind q = 2
  · refine .inr (.inl ⟨k2, fun u => ?_⟩)
    rw [hi, e, hks]
    unfold langF
    rw [if_neg k1, if_pos k2]
  rw [if_neg k2] at ht
  by_cases k3 : kind q = 3
  · refine .inr (.inr (.inl ⟨k3, fun u => ?_⟩))
    rw [hi, e]
    unfold langF
    rw [if_neg k1, if_neg k2, if_pos k3, ← hks]
    constructor
    · rintro ⟨L, hL, hu⟩
      obtain ⟨k, hk, rfl⟩ := List.mem_map.1 hL
      exact ⟨k, hk, hu⟩
    · rintro ⟨k, hk, hu⟩
      exact ⟨Ls k, List.mem_map_of_mem hk, hu⟩
  rw [if_neg k3] at ht
  by_cases k4 : kind q = 4
  · have hone := right_one hr k4
    have htm := right_times hr k4
    obtain ⟨k, hkk⟩ := List.length_eq_one_iff.1 (hlen.trans hone)
    refine .inr (.inr (.inr ⟨k4, htm.1, htm.2.1, htm.2.2, k, hkk, fun u => ?_⟩))
    rw [hi, e]
    unfold langF
    rw [if_neg k1, if_neg k2, if_neg k3, ← hks, hkk]
    exact Iff.rfl
  · rw [if_neg k4] at ht
    cases ht
theorem at_append {L1 L2 : List (List Int → Prop)} {Ls : Nat → List Int → Prop} {s : Nat} (h : ∀ j L, (L1 ++ L2)[j]? = some L → Ls (s + j) = L) : (∀ j L, L1[j]? = some L → Ls (s + j) = L) ∧ ∀ j L, L2[j]? = some L → Ls (s + L1.length + j) = L := by
  refine ⟨fun j L hj => h j L ?_, fun j L hj => ?_⟩
  · rw [List.getElem?_append_left (List.getElem?_eq_some_iff.1 hj).1]; exact hj
  · rw [Nat.add_assoc]
    refine h _ L ?_
    rw [List.getElem?_append_right (by omega), show L1.length + j - L1.length = j by omega]
    exact hj
theorem sys_list {n : Nat} (ih : ∀ (q : PatN (n + 1)) (i N : Nat) (Ls : Nat → List Int → Prop), rightP (n + 1) q = true → (nodesN n q i).length ≤ 4096 → i + (nodesN n q i).length ≤ N → (∀ j L, (langsN n q)[j]? = some L → Ls (i + j) = L) → (∀ j nd, (nodesN n q i)[j]? = some nd → NodeOk N Ls (i + j) nd) ∧ Ls i = LangN n q) :
    ∀ (ks : List (PatN (n + 1))) (s N : Nat) (Ls : Nat → List Int → Prop), (∀ r ∈ ks, rightP (n + 1) r = true) → (catB (ks.map (nodesN n)) s).length ≤ 4096 → s + (catB (ks.map (nodesN n)) s).length ≤ N → (∀ j L, ((ks.map (langsN n)).flatten)[j]? = some L → Ls (s + j) = L) →
      (∀ j nd, (catB (ks.map (nodesN n)) s)[j]? = some nd → NodeOk N Ls (s + j) nd) ∧ (numsB (ks.map (nodesN n)) s).map Ls = ks.map (LangN n) ∧ ∀ k ∈ numsB (ks.map (nodesN n)) s, s ≤ k ∧ k < N
  | [], s, N, Ls, _, _, _, _ => ⟨fun j nd h => by simp [catB] at h, rfl, fun k h => by simp [numsB] at h⟩
  | q :: ks, s, N, Ls, hr, hl, hN, hL => by
    have hlen : (catB ((q :: ks).map (nodesN n)) s).length = (nodesN n q s).length + (catB (ks.map (nodesN n)) (s + (nodesN n q s).length)).length := by
      show (nodesN n q s ++ catB (ks.map (nodesN n)) (s + (nodesN n q s).length)).length = _
      rw [List.length_append]
    have hpos : 1 ≤ (nodesN n q s).length := by
      cases n with
      | zero => exact Nat.le_refl _
      | succ n => rw [nodesS, List.length_cons]; omega
    rw [List.map_cons, List.flatten_cons] at hL
    obtain ⟨h1, h2⟩ := at_append hL
    rw [← nodes_langs n q s] at h2
    obtain ⟨g1, g2⟩ := ih q s N Ls (hr q (List.mem_cons_self ..)) (by omega) (by omega) h1
    obtain ⟨g3, g4, g5⟩ := sys_list ih ks (s + (nodesN n q s).length) N Ls (fun r h => hr r (List.mem_cons_of_mem _ h)) (by omega) (by omega) h2
    refine ⟨fun j nd hj => ?_, ?_, fun k hk => ?_⟩
    · have hj : (nodesN n q s ++ catB (ks.map (nodesN n)) (s + (nodesN n q s).length))[j]? = some nd := hj
      by_cases e : j < (nodesN n q s).length
      · rw [List.getElem?_append_left e] at hj
        exact g1 j nd hj
      · rw [List.getElem?_append_right (by omega)] at hj
        have := g3 _ nd hj
        rw [show s + (nodesN n q s).length + (j - (nodesN n q s).length) = s + j by omega] at this
        exact this
    · show Ls s :: (numsB (ks.map (nodesN n)) (s + (nodesN n q s).length)).map Ls = LangN n q :: ks.map (LangN n)
      rw [g2, g4]
    · have hk : k ∈ s :: numsB (ks.map (nodesN n)) (s + (nodesN n q s).length) := hk
      rcases List.mem_cons.1 hk with rfl | hk
      · omega
      · have := g5 k hk
        omega
/-- The values of a right pattern match what they must by their parts. -/
theorem sys_of : ∀ (n : Nat) (q : PatN (n + 1)) (i N : Nat) (Ls : Nat → List Int → Prop), rightP (n + 1) q = true → (nodesN n q i).length ≤ 4096 → i + (nodesN n q i).length ≤ N → (∀ j L, (langsN n q)[j]? = some L → Ls (i + j) = L) → (∀ j nd, (nodesN n q i)[j]? = some nd → NodeOk N Ls (i + j) nd) ∧ Ls i = LangN n q
  | 0, q, i, N, Ls, hr, hl, hN, hL => by
    have h0 : Ls i = LangN 0 q := hL 0 _ rfl
    refine ⟨fun j nd hj => ?_, h0⟩
    rw [nodes0] at hj
    have hj1 := (List.getElem?_eq_some_iff.1 hj).1
    simp only [List.length_cons, List.length_nil] at hj1
    obtain rfl : j = 0 := by omega
    simp only [List.getElem?_cons_zero, Option.some.injEq] at hj
    subst hj
    exact node_ok (S := fun _ _ => False) hr (by rw [none_of (kids q)]; simp) (fun u => by rw [none_of (kids q)]; rfl) (by rw [none_of (kids q)]; rfl) (fun k hk => by cases hk) h0
  | n + 1, q, i, N, Ls, hr, hl, hN, hL => by
    have h0 : Ls i = LangN (n + 1) q := hL 0 _ (by rw [langsS]; rfl)
    rw [nodesS, List.length_cons] at hl hN
    obtain ⟨g1, g2, g3⟩ := sys_list (sys_of n) (kids q) (i + 1) N Ls (right_kid hr) (by omega) (by omega) (fun j L hj => by
      have := hL (j + 1) L (by rw [langsS, List.getElem?_cons_succ]; exact hj)
      rw [show i + (j + 1) = i + 1 + j by omega] at this
      exact this)
    refine ⟨fun j nd hj => ?_, h0⟩
    rw [nodesS] at hj
    cases j with
    | zero =>
      simp only [List.getElem?_cons_zero, Option.some.injEq] at hj
      subst hj
      have hkl : (kids q).length ≤ 4096 := by
        have h1 := congrArg List.length g2
        rw [List.length_map, List.length_map, numsB_len, List.length_map] at h1
        have h2 : ∀ (bs : List (Nat → List NodeT)) (i : Nat), (∀ b ∈ bs, ∀ i, 1 ≤ (b i).length) → bs.length ≤ (catB bs i).length := by
          intro bs
          induction bs with
          | nil => intro i _; exact Nat.zero_le _
          | cons b bs ih =>
            intro i hb
            show bs.length + 1 ≤ (b i ++ catB bs (i + (b i).length)).length
            rw [List.length_append]
            have := ih (i + (b i).length) (fun c hc => hb c (List.mem_cons_of_mem _ hc))
            have := hb b (List.mem_cons_self ..) i
            omega
        have h3 := h2 ((kids q).map (nodesN n)) (i + 1) (fun b hb i => by
          obtain ⟨r, _, rfl⟩ := List.mem_map.1 hb
          cases n with
          | zero => exact Nat.le_refl _
          | succ n => rw [nodesS, List.length_cons]; omega)
        rw [List.length_map] at h3
        omega
      exact node_ok (S := LangN n) hr hkl (fun u => rfl) g2 (fun k hk => by have := g3 k hk; omega) h0
    | succ j =>
      rw [List.getElem?_cons_succ] at hj
      have := g1 j nd hj
      rw [show i + 1 + j = i + (j + 1) by omega] at this
      exact this
/-- How many values. -/
theorem nodes_size : ∀ (n : Nat) (q : PatN (n + 1)) (i : Nat), ((nodesN n q i).length : Int) = sizeP (n + 1) q
  | 0, q, i => by
    rw [size_succ, none_of (kids q)]
    rfl
  | n + 1, q, i => by
    rw [size_succ, nodesS, List.length_cons]
    have key : ∀ (ks : List (PatN (n + 1))) (s : Nat), ((catB (ks.map (nodesN n)) s).length : Int) = sizesP (n + 1) ks := by
      intro ks
      induction ks with
      | nil => intro s; rfl
      | cons r ks ih =>
        intro s
        show ((nodesN n r s ++ catB (ks.map (nodesN n)) (s + (nodesN n r s).length)).length : Int) = sizeP (n + 1) r + sizesP (n + 1) ks
        rw [List.length_append, Int.natCast_add, nodes_size n r s, ih]
    have := key (kids q) (i + 1)
    omega
/-- The document's net of a pattern in order. -/
def NDp (n : Nat) (p : PatN (n + 1)) : List NodeT := nodesN n p 0
def LSp (n : Nat) (p : PatN (n + 1)) (i : Nat) : List Int → Prop := ((langsN n p)[i]?).getD (fun _ => False)
theorem sys_p {n : Nat} {p : PatN (n + 1)} (hr : rightP (n + 1) p = true) (hs : sizeP (n + 1) p ≤ 4096) : Sys (NDp n p) (LSp n p) ∧ LSp n p 0 = LangN n p ∧ 0 < (NDp n p).length := by
  have hl : (nodesN n p 0).length ≤ 4096 := by have := nodes_size n p 0; omega
  obtain ⟨g1, g2⟩ := sys_of n p 0 (nodesN n p 0).length (LSp n p) hr hl (by omega) (fun j L hj => by unfold LSp; rw [Nat.zero_add, hj]; rfl)
  refine ⟨⟨hl, fun i nd hi => ?_⟩, g2, ?_⟩
  · have := g1 i nd hi
    rw [Nat.zero_add] at this
    exact this
  · unfold NDp
    cases n with
    | zero => exact Nat.lt_add_one _
    | succ n => rw [nodesS, List.length_cons]; omega

end Ex
end Go.Proofs.YtlgojnodhbmlkaaGreatDoor
namespace Go.Proofs.YtlgojnodhbmlkaaGreatDoor
open Go.RowKit
namespace Ex

/-- add of every pattern. -/
theorem add_all : ∀ (n : Nat) (p : PatN (n + 1)), AddC n p
  | 0, p => by
    intro R nb vB ND vk w hA hk hlen
    have e : nodesN 1 (fitq 1 p) = nodesN 0 p := fold_fit nodeF 0 1 (by omega) p
    have h := add_step 0 (fitq 1 p) (fun r hr => by cases hr) R nb vB ND vk w hA (KidsAt.fit 0 1 (by omega) _ _ hk) (by rw [e]; exact hlen)
    rw [e] at h
    exact h
  | n + 1, p => add_step n p (fun r _ => add_all n r)

end Ex
end Go.Proofs.YtlgojnodhbmlkaaGreatDoor
namespace Go.Proofs.YtlgojnodhbmlkaaGreatDoor
open Go.RowKit
attribute [local go_sem] Oper.semAt_some
namespace Ex

theorem row_at {w : World} {base size n : Nat} {e : TypeId} {v : Value} {xs : List Value} (h : w.ownsRow base e size v n xs) (hn : 0 < n) : ∃ g cap cur, v = .slice (some ⟨g, 0, none⟩) n cap ∧ g < w.heap.size ∧ n ≤ cap ∧ w.heap[g]? = some (.cells cur e (0, 0)) ∧ n * size ≤ cur.size ∧ ∀ (j : Nat) (u : Value), xs[j]? = some u → cur[j]? = some u := by
  rcases h.2 with ⟨_, h0⟩ | ⟨g, cap, cur, h1, h2, h3, h4, h5, h6, h7⟩
  · omega
  · refine ⟨g, cap, cur, h1, (Array.getElem?_eq_some_iff.1 h3).1, h4, h3, ?_, fun j u hj => ?_⟩
    · rw [h6]; exact Nat.mul_le_mul_right _ h4
    · rw [← h7, List.getElem?_take] at hj
      split at hj
      · simpa using hj
      · cases hj
theorem nil_tb {w : World} {g n : Nat} {t : TypeId} {cur : Array Value} {f : Nat → Value → Prop} (h : w.heap[g]? = some (.cells cur t (0, 0))) (hs : n ≤ cur.size) (hc : ∀ (j : Nat) (u : Value), (nilV n)[j]? = some u → cur[j]? = some u) (hf : ∀ i, f i (.slice none 0 0)) : Tb w g t n f :=
  ⟨cur, h, hs, fun i hi => ⟨.slice none 0 0, hc i _ (by simp [nilV, hi]), hf i⟩⟩
/-- The net is made: it may be asked. -/
theorem netQ_of {R : Nat → Nat} {w : World} {nb : Nat} {vB : Value} {ND : List NodeT} {bs : List Int} {Ls : Nat → List Int → Prop} (h : NetA R w nb vB ND) (hne : 0 < ND.length) (hB : BytesIn (fun d => d < w.heap.size ∧ R d = 0) w vB bs) :
    ∃ RQ, NetQ w.heap.size RQ (fun _ _ => none) w nb bs ND Ls ∧ ∀ d, R d = 0 ∨ R d = 6 ∨ R d = 7 → RQ d = 0 := by
  obtain ⟨f, xs, h0, hP, hF, hK, h3, h4, h5⟩ := h
  obtain ⟨o1, r1⟩ := hP.2.2.2 1 (by omega) (by omega)
  obtain ⟨o2, r2⟩ := hP.2.2.2 2 (by omega) (by omega)
  obtain ⟨o3, r3⟩ := hP.2.2.2 3 (by omega) (by omega)
  obtain ⟨o4, r4⟩ := hP.2.2.2 4 (by omega) (by omega)
  obtain ⟨o5, r5⟩ := hP.2.2.2 5 (by omega) (by omega)
  obtain ⟨be, ce, cu1, e1, l1, c1, b1, s1, x1⟩ := row_at o1 hne
  obtain ⟨bk, ck, cu2, e2, l2, c2, b2, s2, x2⟩ := row_at o2 hne
  obtain ⟨bn, cn, cu3, e3, l3, c3, b3, s3, x3⟩ := row_at o3 hne
  obtain ⟨bw, cw, cu4, e4, l4, c4, b4, s4, x4⟩ := row_at o4 hne
  obtain ⟨bl, cl, cu5, e5, l5, c5, b5, s5, x5⟩ := row_at o5 hne
  have q1 : R be = 1 := r1 be (by rw [e1]; rfl)
  have q2 : R bk = 2 := r2 bk (by rw [e2]; rfl)
  have q3 : R bn = 3 := r3 bn (by rw [e3]; rfl)
  have q4 : R bw = 4 := r4 bw (by rw [e4]; rfl)
  have q5 : R bl = 5 := r5 bl (by rw [e5]; rfl)
  have q6 : R nb = 6 := hP.2.1
  obtain ⟨a, capB, eB, m1, m2, m3⟩ := hB
  obtain ⟨RQ, hRQ⟩ : ∃ RQ : Nat → Nat, ∀ d, RQ d = if d = bn then 1 else if d = bw then 2 else if d = bl then 3 else 0 := ⟨fun d => if d = bn then 1 else if d = bw then 2 else if d = bl then 3 else 0, fun _ => rfl⟩
  have low : ∀ d, R d ≠ 3 → R d ≠ 4 → R d ≠ 5 → RQ d = 0 := fun d n3 n4 n5 => by
    rw [hRQ, if_neg (fun e => by rw [e] at n3; omega), if_neg (fun e => by rw [e] at n4; omega), if_neg (fun e => by rw [e] at n5; omega)]
  have small : ∀ d, RQ d ≤ 3 := fun d => by rw [hRQ]; split <;> (try split) <;> (try split) <;> omega
  refine ⟨RQ, ⟨a, capB, be, ce, bk, ck, bn, cn, bw, cw, bl, cl, fun _ _ => false, ⟨hP.lt, l1, l2, Nat.le_refl _, m2, m1⟩, ⟨low nb (by omega) (by omega) (by omega), low be (by omega) (by omega) (by omega), low bk (by omega) (by omega) (by omega), (hRQ bn).trans (if_pos rfl), ?_, ?_, fun d hd => ?_⟩, ⟨c1, c2, c3, c4, c5⟩, ?_, ?_, fun i nd hi => ?_, fun i nd hi => ?_, ?_, ?_, ?_⟩, fun d hd => low d (by omega) (by omega) (by omega)⟩
  · rw [hRQ, if_neg (fun e => by rw [e] at q4; omega), if_pos rfl]
  · rw [hRQ, if_neg (fun e => by rw [e] at q5; omega), if_neg (fun e => by rw [e] at q5; omega), if_pos rfl]
  · have := hP.2.2.1 d hd
    exact low d (by omega) (by omega) (by omega)
  · have hh := hP.1
    rw [h0, eB, e1, e2, e3, e4, e5] at hh
    exact hh
  · refine ⟨a, capB, rfl, m1, m2, ?_⟩
    rcases m3 with m3 | ⟨c, o, g1, g2, g3⟩
    · exact .inl m3
    · exact .inr ⟨c, o, g1, ⟨g2.1, low c (by omega) (by omega) (by omega)⟩, g3⟩
  · obtain ⟨x, y, z, g0, g1, g2, g3, g4, g5⟩ := hF.at hi
    have cell : ∀ (j : Nat) (u : Value), (xs 1)[j]? = some u → w.cell? ⟨be, j, none⟩ = some u := fun j u hj => by
      have := x1 j u hj
      simp [World.cell?, b1, this]
    exact ⟨cell _ _ g0, cell _ _ g1, cell _ _ g2, cell _ _ g3, cell _ _ g4, x, y, z, cell _ _ g5⟩
  · obtain ⟨v, g0, g1⟩ := hK i nd hi
    refine ⟨v, ?_, ?_⟩
    · have := x2 i v g0
      simp [World.cell?, b2, this]
    · exact g1.same (Nat.le_refl _) (fun d hd hp => ⟨rfl, hd, low d (by omega) (by omega) (by omega)⟩)
  · rw [h4] at x4
    have s4 : ND.length * 1 ≤ cu4.size := s4
    exact nil_tb b4 (by omega) x4 (fun i => .inl ⟨rfl, fun d hd => by have := small d; omega⟩)
  · rw [h3] at x3
    have s3 : ND.length * 1 ≤ cu3.size := s3
    exact nil_tb b3 (by omega) x3 (fun i => ⟨⟨none, 0, 0, rfl⟩, fun ⟨d, hd⟩ => by have := small d; omega⟩)
  · rw [h5] at x5
    have s5 : ND.length * 1 ≤ cu5.size := s5
    exact nil_tb b5 (by omega) x5 (fun i => .inl ⟨rfl, fun d hd => by have := small d; omega⟩)
/-- A net with nothing in it. -/
theorem netA_new (w : World) (vB : Value) : NetA (fun d => if d = w.heap.size then 6 else 0) (w.alloc (.cells #[vB, .slice none 0 0, .slice none 0 0, .slice none 0 0, .slice none 0 0, .slice none 0 0] 66)) w.heap.size vB [] := by
  refine ⟨fun j => if j = 0 then vB else .slice none 0 0, fun _ => [], rfl, ⟨heap_alloc_new w _, if_pos rfl, fun d hd => ?_, fun j j1 j5 => ⟨?_, fun g hg => ?_⟩⟩, rfl, fun i nd hi => by simp at hi, rfl, rfl, rfl⟩
  · have : d ≠ w.heap.size := by simp at hd; omega
    simp [this]
  · have : ¬ j = 0 := by omega
    simp only [this, if_false]
    exact ⟨by simp, .inl ⟨rfl, rfl⟩⟩
  · have : ¬ j = 0 := by omega
    simp only [this, if_false] at hg
    cases hg
/-- What net answers. -/
def NG (n : Nat) (p : PatN (n + 1)) (bs : List Int) (w : World) (e : Ending) (w' : World) : Prop :=
  ∃ (nb : Nat) (R : Nat → Nat), e = .returned (.pointer (some ⟨nb, 0, none⟩)) ∧ Hid (NetQ w'.heap.size R (fun _ _ => none) w' nb bs (NDp n p) (LSp n p)) ∧ Hid (∀ d, d < w.heap.size → R d = 0) ∧ Hid (Kept w w')
set_option linter.unusedSimpArgs false in
set_option maxRecDepth 100000 in
set_option maxHeartbeats 4000000 in
theorem net_is (n : Nat) (p : PatN (n + 1)) (hC : AddC n p) (hs : sizeP (n + 1) p ≤ 4096) (vk : Value) (w : World) (hk : KidsAt (fun d => d < w.heap.size) w n (kids p) vk) (b : Option Addr) (len cap : Nat) (bs : List Int) (hn : bs.length = len) (hb : BytesIn (fun c => c < w.heap.size) w (.slice b len cap) bs) :
    Calls Tryz.prog 19 #[valOf p vk, .slice b len cap] w fun e w' => NG n p bs w e w' := by
  have HC := hide1 hC
  have HK := hide1 hk
  have HB := hide1 hb
  have HN := hide1 hn
  have HSZ := hide1 hs
  obtain ⟨ak, ck, rfl⟩ := hk.form
  rw [valOf_eq]
  clear hC hk hb hn hs
  go_enter Tryz.func19, Tryz.ntmps19
  have HK1 : Hid (Kept w (w.alloc (.cells #[.int .i64 (kind p), .int .i64 (from_ p), .int .i64 (to_ p), .int .i64 (min_ p), .int .i64 (max_ p), .slice ak (kids p).length ck] 24))) := (Kept.refl w).alloc _ _
  obtain ⟨b0, b1, b2, b3, b4, b5⟩ := box_at w (.int .i64 (kind p)) (.int .i64 (from_ p)) (.int .i64 (to_ p)) (.int .i64 (min_ p)) (.int .i64 (max_ p)) (.slice ak (kids p).length ck) 24
  have HBX := hide1 (And.intro b0 (And.intro b1 (And.intro b2 (And.intro b3 (And.intro b4 b5)))))
  clear b0 b1 b2 b3 b4 b5
  go_upto_region 1 with fail
  obtain ⟨w1, hw1⟩ : ∃ w1, w.alloc (.cells #[.int .i64 (kind p), .int .i64 (from_ p), .int .i64 (to_ p), .int .i64 (min_ p), .int .i64 (max_ p), .slice ak (kids p).length ck] 24) = w1 := ⟨_, rfl⟩
  rw [hw1] at HK1 HBX ⊢
  obtain ⟨gx, hgx⟩ : ∃ gx, w.heap.size = gx := ⟨_, rfl⟩
  rw [hgx] at HBX ⊢
  have HGX := hide1 hgx
  clear hw1 hgx
  have HA := hide1 (netA_new w1 (.slice b len cap))
  have HK2 : Hid (Kept w1 (w1.alloc (.cells #[.slice b len cap, .slice none 0 0, .slice none 0 0, .slice none 0 0, .slice none 0 0, .slice none 0 0] 66))) := (Kept.refl w1).alloc _ _
  go_upto_region 2 with fail
  obtain ⟨w2, hw2⟩ : ∃ w2, w1.alloc (.cells #[.slice b len cap, .slice none 0 0, .slice none 0 0, .slice none 0 0, .slice none 0 0, .slice none 0 0] 66) = w2 := ⟨_, rfl⟩
  rw [hw2] at HA HK2 ⊢
  have HNB : Hid (w.heap.size ≤ w1.heap.size) := HK1.out.size
  obtain ⟨nb, hnb⟩ : ∃ nb, w1.heap.size = nb := ⟨_, rfl⟩
  rw [hnb] at HA HNB ⊢
  clear hw2 hnb
  have HK3 := hide1 (gtrans HK1.out HK2.out)
  have d0 := grown_cell HK2.out HBX.out.1
  have d1 := grown_cell HK2.out HBX.out.2.1
  have d2 := grown_cell HK2.out HBX.out.2.2.1
  have d3 := grown_cell HK2.out HBX.out.2.2.2.1
  have d4 := grown_cell HK2.out HBX.out.2.2.2.2.1
  have d5 := grown_cell HK2.out HBX.out.2.2.2.2.2
  have hlow : ∀ d, d < w.heap.size → (if d = nb then 6 else 0) = 0 := fun d hd => if_neg (by have := HNB.out; omega)
  have HLOW := hide1 hlow
  have HKK : Hid (KidsAt (fun d => d < w2.heap.size ∧ (if d = nb then 6 else 0) = 0) w2 n (kids p) (.slice ak (kids p).length ck)) := KidsAt.mono (HK3.out.holds _) (fun d hd => ⟨Nat.lt_of_lt_of_le hd HK3.out.size, HLOW.out d hd⟩) _ _ _ HK.out
  have HLEN : Hid (([] : List NodeT).length + (nodesN n p ([] : List NodeT).length).length ≤ 5000) := by
    have h := nodes_size n p 0
    have h2 := HSZ.out
    show 0 + (nodesN n p 0).length ≤ 5000
    omega
  clear hlow
  go_wp2_with (go_at_call 30; refine (HC.out (fun d => if d = nb then 6 else 0) nb (.slice b len cap) [] _ w2 HA.out HKK.out HLEN.out).mono ?_; rintro e w3 ⟨R3, m3, rfl, HM3, HA3, HRK3, HRX3⟩)
  go_ret
  have hA : NetA R3 w3 nb (.slice b len cap) (NDp n p) := HA3.out
  have hs2 := HK3.out.size
  have hs3 := HRK3.out.size
  have hR : ∀ d, d < w.heap.size → R3 d = 0 := fun d hd => (HRX3.out d (by omega)).trans (HLOW.out d hd)
  have hkw : Kept w w3 := ⟨HRK3.out.1.trans HK3.out.1, HRK3.out.2.1.trans HK3.out.2.1, HRK3.out.2.2.1.trans HK3.out.2.2.1, by omega, fun d hd => (HRK3.out.same (by omega) (.inl (HLOW.out d hd))).trans (HK3.out.2.2.2.2 d hd)⟩
  have hpos : 0 < (NDp n p).length := by
    unfold NDp
    cases n with
    | zero => exact Nat.lt_add_one _
    | succ n => rw [nodesS, List.length_cons]; omega
  have hB3 : BytesIn (fun d => d < w3.heap.size ∧ R3 d = 0) w3 (.slice b len cap) bs := by
    obtain ⟨a', cap', e, g1, g2, g3⟩ := HB.out
    refine ⟨a', cap', e, g1, g2, ?_⟩
    rcases g3 with g3 | ⟨c, o, g4, g5, g6⟩
    · exact .inl g3
    · exact .inr ⟨c, o, g4, ⟨by omega, hR c g5⟩, fun i x hi => grown_cell hkw (g6 i x hi)⟩
  obtain ⟨RQ, hQ, hQ2⟩ := netQ_of (Ls := LSp n p) hA hpos hB3
  exact ⟨nb, RQ, rfl, hQ, fun d hd => hQ2 d (.inl (hR d hd)), hkw⟩

end Ex
end Go.Proofs.YtlgojnodhbmlkaaGreatDoor
