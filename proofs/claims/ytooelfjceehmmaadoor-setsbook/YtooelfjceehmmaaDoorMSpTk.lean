import Derived.Test.YtooelfjceehmmaaDoorMSpMp
namespace Go.Proofs.YtooelfjceehmmaaDoor
open Go.RowKit
attribute [local go_sem] Oper.semAt_some
namespace Ex

/-- Names and terminals that are reached, in a block. -/
def reachV (A B : Nat) : Array Value := #[.int .u64 (wordAt A 0 : Nat), .int .u64 (wordAt A 1 : Nat), .int .u64 (wordAt B 0 : Nat), .int .u64 (wordAt B 1 : Nat)]
theorem reachV_eq (A B : Nat) : reachV A B = #[.int .u64 (wordAt A 0 : Nat), .int .u64 (wordAt A 1 : Nat), .int .u64 (wordAt B 0 : Nat), .int .u64 (wordAt B 1 : Nat)] := rfl
def RcB (w : World) (d A B : Nat) : Prop := w.heap[d]? = some (.cells (reachV A B) 137 (0, 0))
theorem RcB.cells {w : World} {d A B : Nat} (h : RcB w d A B) : (w.cell? ⟨d, 0, none⟩ = some (.int .u64 (wordAt A 0 : Nat)) ∧ w.cell? ⟨d, 1, none⟩ = some (.int .u64 (wordAt A 1 : Nat)) ∧ w.cell? ⟨d, 2, none⟩ = some (.int .u64 (wordAt B 0 : Nat)) ∧ w.cell? ⟨d, 3, none⟩ = some (.int .u64 (wordAt B 1 : Nat))) ∧ w.frozen? ⟨d, 0, none⟩ = false ∧ w.frozen? ⟨d, 1, none⟩ = false ∧ w.frozen? ⟨d, 2, none⟩ = false ∧ w.frozen? ⟨d, 3, none⟩ = false := by
  unfold RcB at h
  refine ⟨⟨?_, ?_, ?_, ?_⟩, ?_, ?_, ?_, ?_⟩ <;> simp [World.cell?, World.frozen?, h, reachV]
theorem RcB.lt {w : World} {d A B : Nat} (h : RcB w d A B) : d < w.heap.size := (Array.getElem?_eq_some_iff.1 h).1
theorem RcB.keep {w w' : World} {d A B : Nat} (h : RcB w d A B) (hk : Kept w w') : RcB w' d A B := (hk.2.2.2.2 d h.lt).trans h
theorem RcB.but {w w' : World} {d g A B : Nat} (h : RcB w d A B) (hk : KeptBut g w w') (hd : d ≠ g) : RcB w' d A B := (hk.2.2.2.2 d h.lt hd).trans h
theorem RcB.new (w : World) (A B : Nat) : RcB (w.alloc (.cells (reachV A B) 137)) w.heap.size A B := heap_alloc_new w _
theorem RcB.setN {w : World} {d A B : Nat} (h : RcB w d A B) (A' : Nat) : RcB ((w.setCell ⟨d, 0, none⟩ (.int .u64 (wordAt A' 0 : Nat))).setCell ⟨d, 1, none⟩ (.int .u64 (wordAt A' 1 : Nat))) d A' B := by
  unfold RcB at h ⊢
  have hl : d < w.heap.size := (Array.getElem?_eq_some_iff.1 h).1
  have he : w.heap[d] = Obj.cells (reachV A B) 137 (0, 0) := by rw [Array.getElem?_eq_getElem hl] at h; exact Option.some.inj h
  simp [World.setCell, Array.getElem_modify, hl, he, reachV]
theorem RcB.setT {w : World} {d A B : Nat} (h : RcB w d A B) (B' : Nat) : RcB ((w.setCell ⟨d, 2, none⟩ (.int .u64 (wordAt B' 0 : Nat))).setCell ⟨d, 3, none⟩ (.int .u64 (wordAt B' 1 : Nat))) d A B' := by
  unfold RcB at h ⊢
  have hl : d < w.heap.size := (Array.getElem?_eq_some_iff.1 h).1
  have he : w.heap[d] = Obj.cells (reachV A B) 137 (0, 0) := by rw [Array.getElem?_eq_getElem hl] at h; exact Option.some.inj h
  simp [World.setCell, Array.getElem_modify, hl, he, reachV]
/-- A row is taken in. -/
def takeM (nl : Nat) : List SymM → Nat × Nat → Nat × Nat
  | [], s => s
  | x :: r, s => takeM nl r (if x.1 = 3 then (s.1 ||| 2 ^ x.2.toNat, s.2) else (s.1, s.2 ||| 2 ^ termN nl x))
/-- A symbol whose number is small. -/
def SymGood (x : SymM) : Prop := NamesOk x ∧ (x.1 ≠ 3 → x.1 ≠ 2 → 0 ≤ x.2 ∧ x.2 < 128)
/-- A symbol in a box. -/
def XBox (w : World) (b : Nat) (k n : Int) : Prop := w.heap[b]? = some (.cells #[.int .i64 k, .int .i64 n] 58 (0, 0))
theorem XBox.cells {w : World} {b : Nat} {k n : Int} (h : XBox w b k n) : w.cell? ⟨b, 0, none⟩ = some (.int .i64 k) ∧ w.cell? ⟨b, 1, none⟩ = some (.int .i64 n) := by
  unfold XBox at h
  exact ⟨by simp [World.cell?, h], by simp [World.cell?, h]⟩
theorem XBox.lt {w : World} {b : Nat} {k n : Int} (h : XBox w b k n) : b < w.heap.size := (Array.getElem?_eq_some_iff.1 h).1
theorem XBox.keep {w w' : World} {b : Nat} {k n : Int} (h : XBox w b k n) (hk : Kept w w') : XBox w' b k n := (hk.2.2.2.2 b h.lt).trans h
theorem XBox.but {w w' : World} {b d : Nat} {k n : Int} (h : XBox w b k n) (hk : KeptBut d w w') (hd : b ≠ d) : XBox w' b k n := (hk.2.2.2.2 b h.lt hd).trans h
theorem XBox.new (w : World) (k n : Int) : XBox (w.alloc (.cells #[.int .i64 k, .int .i64 n] 58)) w.heap.size k n := heap_alloc_new w _
def TkI (nl : Nat) (row : List SymM) (s0 : Nat × Nat) (d : Nat) (W : World) (vi : Value) (wr : World) : Prop := ∃ j A B : Nat, vi = .int .i64 (j : Int) ∧ j ≤ row.length ∧ Hid (takeM nl row s0 = takeM nl (row.drop j) (A, B)) ∧ Hid (RcB wr d A B) ∧ Hid (KeptBut d W wr)
set_option linter.unusedSimpArgs false in
set_option maxRecDepth 100000 in
set_option maxHeartbeats 8000000 in
theorem sTake_is (d A0 B0 nl : Nat) (al : Option Addr) (cl : Nat) (x1 x3 : Value) (st : Int) (ar : Option Addr) (nr cr : Nat) (row : List SymM) (w0 w : World) (hnl : nl < 128) (hrow : row.length = nr) (hr : RightAt w0 (.slice ar nr cr) row) (hk : Kept w0 w) (hd : w0.heap.size ≤ d) (hA : RcB w d A0 B0) (hg : ∀ x ∈ row, SymGood x) :
    Calls Tryd.prog 97 #[.pointer (some ⟨d, 0, none⟩), .agg #[.slice al nl cl, x1, .int .i64 st, x3], .slice ar nr cr] w fun e w' => e = .returned (.tuple #[]) ∧ RcB w' d (takeM nl row (A0, B0)).1 (takeM nl row (A0, B0)).2 ∧ KeptBut d w w' := by
  have HROW := hide1 hrow
  have HR := hide1 hr
  have HK0 := hide1 hk
  have HD := hide1 hd
  have HG := hide1 hg
  have HNL := hide1 hnl
  obtain ⟨_, _, e1, hc, hn⟩ := hr.len
  simp only [Value.slice.injEq] at e1
  obtain ⟨rfl, en, rfl⟩ := e1
  clear en
  rw [hrow] at hc hn
  have gn : (nr : Int) ≤ 17592186044416 := by omega
  have HK1 : Hid (Kept w (w.alloc (.cells #[.slice al nl cl, x1, .int .i64 st, x3] 26))) := (Kept.refl w).alloc _ _
  have HS := hide1 (SBox.new w (.slice al nl cl) x1 (.int .i64 st) x3)
  have HA := hide1 (hA.keep HK1.out)
  have HGD : Hid (w.heap.size ≠ d) := Nat.ne_of_gt hA.lt
  clear hrow hr hk hd hg hnl hA
  go_enter Tryd.func97, Tryd.ntmps97
  go_upto_region 1 with fail
  obtain ⟨W, hW⟩ : ∃ W, w.alloc (.cells #[.slice al nl cl, x1, .int .i64 st, x3] 26) = W := ⟨_, rfl⟩
  rw [hW] at HK1 HS HA ⊢
  clear hW
  obtain ⟨g, hgb⟩ : ∃ g, w.heap.size = g := ⟨_, rfl⟩
  rw [hgb] at HS HGD ⊢
  clear hgb
  go_wp2_with fail
  go_loopw [10] (TkI nl row (A0, B0) d W) (fun i _ => nr - (intOf i).toNat)
  case atStart => exact ⟨0, A0, B0, rfl, Nat.zero_le _, rfl, HA, but_refl d W⟩
  case round =>
    obtain ⟨j, A, B, rfl, hj, HM, HAr, HKr⟩ := hrel
    rw [HROW.out] at hj
    by_cases hlt : (j : Int) < (nr : Int)
    · obtain ⟨x, hx⟩ : ∃ x, row[j]? = some x := ⟨_, List.getElem?_eq_getElem (by have := HROW.out; omega)⟩
      have HKw := hide1 (KeptBut.up (gtrans HK0.out HK1.out) HD.out HKr.out)
      obtain ⟨cb, ob, cs, ea, hcb, hlen, hcell, hcs⟩ := SliceOf.el (HR.out.keep HKw.out) hx
      have hcs : cs = [.int .i64 x.1, .int .i64 x.2] := hcs
      subst ea hcs
      have k0 := hcell 0 _ rfl
      have k1 := hcell 1 _ rfl
      have k0 : wr.cell? ⟨cb, ob + j * 2, none⟩ = some (.int .i64 x.1) := k0
      have HGX := hide1 (HG.out x (List.mem_of_getElem? hx))
      have gjc : (j : Int) < (cr : Int) := by omega
      have HDR : Hid (takeM nl row (A0, B0) = takeM nl (row.drop (j + 1)) (if x.1 = 3 then (A ||| 2 ^ x.2.toNat, B) else (A, B ||| 2 ^ termN nl x))) := by
        obtain ⟨hj2, e⟩ := List.getElem?_eq_some_iff.1 hx
        show _ = _
        rw [HM.out, List.drop_eq_getElem_cons hj2, e]
        rfl
      obtain ⟨kd, nn⟩ := x
      clear hx hcell
      have HX := hide1 (XBox.new wr kd nn)
      have HK4 : Hid (Kept wr (wr.alloc (.cells #[.int .i64 kd, .int .i64 nn] 58))) := (Kept.refl wr).alloc _ _
      have HXD : Hid (wr.heap.size ≠ d) := Nat.ne_of_gt HAr.out.lt
      go_upto_region 4 with fail
      clear k0 k1
      obtain ⟨W4, hW4⟩ : ∃ W4, wr.alloc (.cells #[.int .i64 kd, .int .i64 nn] 58) = W4 := ⟨_, rfl⟩
      rw [hW4] at HX HK4 ⊢
      clear hW4
      obtain ⟨xb, hxb⟩ : ∃ xb, wr.heap.size = xb := ⟨_, rfl⟩
      rw [hxb] at HX HXD ⊢
      clear hxb
      have HA4 := hide1 (HAr.out.keep HK4.out)
      have HS4 := hide1 ((HS.out.but HKr.out HGD.out).keep HK4.out)
      have t0 := HX.out.cells.1
      by_cases h3 : kd = 3
      · subst h3
        obtain ⟨hn0, hn1⟩ := HGX.out.1 rfl
        obtain ⟨p, rfl⟩ : ∃ p : Nat, nn = (p : Int) := ⟨nn.toNat, by simp only at hn0; omega⟩
        have HP : Hid (p < 128) := by simp only at hn1; show _ < _; omega
        have HD2 : Hid (takeM nl row (A0, B0) = takeM nl (row.drop (j + 1)) (A ||| 2 ^ p, B)) := HDR.out
        clear hn0 hn1 HDR
        go_upto_region 5 with fail
        clear t0
        refine wp_region_held_drew (S := fun X => KeptBut d W4 X) (by kernel_rfl) (but_refl d W4) (fun hHeld => ?_)
        refine wpAnyH_take (i := 0) (v := .pointer (some ⟨d, 0, none⟩)) rfl (by kernel_rfl) (by kernel_rfl) (by kernel_rfl) (fun _ _ _ h => h) (Or.inl ⟨by rfl, fun w' hSw => ?_⟩) (by with_reducible assumption) ?_
        · clear hSw
          go_simp
        try simp only [Act.put, List.setIfInBounds_toArray, List.set_cons_zero, List.set_cons_succ]
        refine wpAnyH_take (i := 1) (v := .pointer (some ⟨d, 0, none⟩)) rfl (by kernel_rfl) (by kernel_rfl) (by kernel_rfl) (fun _ _ _ h => h) (Or.inl ⟨by rfl, fun w' hSw => ?_⟩) (by with_reducible assumption) ?_
        · clear hSw
          go_simp
        try simp only [Act.put, List.setIfInBounds_toArray, List.set_cons_zero, List.set_cons_succ]
        refine wpAnyH_take (i := 2) (v := .pointer (some ⟨d, 0, none⟩)) rfl (by kernel_rfl) (by kernel_rfl) (by kernel_rfl) (fun _ _ _ h => h) (Or.inl ⟨by rfl, fun w' hSw => ?_⟩) (by with_reducible assumption) ?_
        · clear hSw
          go_simp
        try simp only [Act.put, List.setIfInBounds_toArray, List.set_cons_zero, List.set_cons_succ]
        refine wpAnyH_take (i := 3) (v := .pointer (some ⟨d, 0, none⟩)) rfl (by kernel_rfl) (by kernel_rfl) (by kernel_rfl) (fun _ _ _ h => h) (Or.inl ⟨by rfl, fun w' hSw => ?_⟩) (by with_reducible assumption) ?_
        · clear hSw
          go_simp
        try simp only [Act.put, List.setIfInBounds_toArray, List.set_cons_zero, List.set_cons_succ]
        refine wpAnyH_take (i := 5) (v := .pointer (some ⟨xb, 1, none⟩)) rfl (by kernel_rfl) (by kernel_rfl) (by kernel_rfl) (fun _ _ _ h => h) (Or.inl ⟨by rfl, fun w' hSw => ?_⟩) (by with_reducible assumption) ?_
        · clear hSw
          go_simp
        try simp only [Act.put, List.setIfInBounds_toArray, List.set_cons_zero, List.set_cons_succ]
        refine wpAnyH_take (i := 6) (v := .int .i64 (p : Int)) rfl (by kernel_rfl) (by kernel_rfl) (by kernel_rfl) (fun _ _ _ h => h) (Or.inl ⟨by rfl, fun w' hSw => ?_⟩) (by with_reducible assumption) ?_
        · have s0 := (XBox.but HX.out hSw HXD.out).cells.2
          clear hSw
          go_simp
        try simp only [Act.put, List.setIfInBounds_toArray, List.set_cons_zero, List.set_cons_succ]
        refine wpAnyH_ready (rs := [4]) (by kernel_rfl) (by simp) ?_
        refine AllReadyH.cons (i := 4) rfl (fun K hK => ?_) AllReadyH.nil
        have a0 : W4.drew.cell? ⟨d, 0, none⟩ = some (.int .u64 (wordAt A 0 : Nat)) := HA4.out.cells.1.1
        have a1 : W4.drew.cell? ⟨d, 1, none⟩ = some (.int .u64 (wordAt A 1 : Nat)) := HA4.out.cells.1.2.1
        go_simp
        clear a0 a1
        refine hK.out _ _ hHeld (fun hHeld2 => ?_)
        clear hK K hHeld
        have hHeld := hHeld2
        clear hHeld2
        try simp only [Act.put, List.setIfInBounds_toArray, List.set_cons_zero, List.set_cons_succ]
        refine wpAnyH_ready (rs := [7]) (by kernel_rfl) (by simp) ?_
        refine AllReadyH.cons (i := 7) rfl (fun K hK => ?_) AllReadyH.nil
        go_simp
        go_wp2_with (go_at_call 58; refine (sWith_is A p HP.out _).mono ?_; rintro e w7 ⟨rfl, hk7⟩; rw [setS_eq]; have HK7 := hide1 (gtrans (drew_kept W4) hk7); clear hk7)
        refine hK.out _ _ (HK7.out.but d) (fun hHeld2 => ?_)
        clear hK K hHeld
        have hHeld := hHeld2
        clear hHeld2
        try simp only [Act.put, List.setIfInBounds_toArray, List.set_cons_zero, List.set_cons_succ]
        refine wpAnyH_take (i := 8) (v := .pointer (some ⟨d, 0, none⟩)) rfl (by kernel_rfl) (by kernel_rfl) (by kernel_rfl) (fun _ _ _ h => h) (Or.inl ⟨by rfl, fun w' hSw => ?_⟩) (by with_reducible assumption) ?_
        · clear hSw
          go_simp
        try simp only [Act.put, List.setIfInBounds_toArray, List.set_cons_zero, List.set_cons_succ]
        refine wpAnyH_take (i := 9) (v := .pointer (some ⟨d, 0, none⟩)) rfl (by kernel_rfl) (by kernel_rfl) (by kernel_rfl) (fun _ _ _ h => h) (Or.inl ⟨by rfl, fun w' hSw => ?_⟩) (by with_reducible assumption) ?_
        · clear hSw
          go_simp
        try simp only [Act.put, List.setIfInBounds_toArray, List.set_cons_zero, List.set_cons_succ]
        refine wpAnyH_ready (rs := [10]) (by kernel_rfl) (by simp) ?_
        refine AllReadyH.cons (i := 10) rfl (fun K hK => ?_) AllReadyH.nil
        have HA7 := hide1 (HA4.out.keep HK7.out)
        obtain ⟨⟨a0, a1, a2, a3⟩, z0, z1, z2, z3⟩ := HA7.out.cells
        go_simp
        clear a0 a1 a2 a3 z0 z1 z2 z3
        have HA8 := hide1 (HA7.out.setN (A ||| 2 ^ p))
        have HK8 : Hid (KeptBut d W4 ((w7.setCell ⟨d, 0, none⟩ (.int .u64 (wordAt (A ||| 2 ^ p) 0 : Nat))).setCell ⟨d, 1, none⟩ (.int .u64 (wordAt (A ||| 2 ^ p) 1 : Nat)))) := but_set (but_set (HK7.out.but d) _ _) _ _
        refine hK.out _ _ HK8.out (fun hHeld2 => ?_)
        clear hK K hHeld
        have hHeld := hHeld2
        clear hHeld2
        try simp only [Act.put, List.setIfInBounds_toArray, List.set_cons_zero, List.set_cons_succ]
        refine wpAnyH_done (by kernel_rfl) ?_ _
        clear hHeld
        go_wp2_with fail
        go_roundw
        case rel => exact ⟨j + 1, _, _, by go_num, by rw [HROW.out]; omega, HD2, HA8, HKr.out.trans ((HK4.out.but d).trans HK8.out)⟩
        case measure => simp [intOf]; omega
      · obtain ⟨q, hq⟩ : ∃ q, termN nl (kd, nn) = q := ⟨_, rfl⟩
        have HQ8 : Hid (q < 128 ∧ termP nl (kd, nn) = (q : Int)) := by
          have h1 := HGX.out.2 h3
          have h2 := HNL.out
          show _ ∧ _
          unfold termN at hq
          unfold termP
          by_cases e2 : kd = 2
          · rw [if_pos (show (kd, nn).1 = 2 from e2)] at hq ⊢
            omega
          · rw [if_neg (show ¬ (kd, nn).1 = 2 from e2)] at hq ⊢
            obtain ⟨a1, a2⟩ := h1 e2
            simp only at a1 a2 hq ⊢
            omega
        have HD2 : Hid (takeM nl row (A0, B0) = takeM nl (row.drop (j + 1)) (A, B ||| 2 ^ q)) := by
          show _ = _
          rw [HDR.out, if_neg (show ¬ (kd, nn).1 = 3 from h3), hq]
        have hb3 : (kd == 3) = false := by simpa using h3
        clear h3 hq HDR
        go_upto_region 6 with fail
        clear t0
        refine wp_region_held_drew (S := fun X => KeptBut d W4 X) (by kernel_rfl) (but_refl d W4) (fun hHeld => ?_)
        refine wpAnyH_take (i := 0) (v := .pointer (some ⟨d, 0, none⟩)) rfl (by kernel_rfl) (by kernel_rfl) (by kernel_rfl) (fun _ _ _ h => h) (Or.inl ⟨by rfl, fun w' hSw => ?_⟩) (by with_reducible assumption) ?_
        · clear hSw
          go_simp
        try simp only [Act.put, List.setIfInBounds_toArray, List.set_cons_zero, List.set_cons_succ]
        refine wpAnyH_take (i := 1) (v := .pointer (some ⟨d, 0, none⟩)) rfl (by kernel_rfl) (by kernel_rfl) (by kernel_rfl) (fun _ _ _ h => h) (Or.inl ⟨by rfl, fun w' hSw => ?_⟩) (by with_reducible assumption) ?_
        · clear hSw
          go_simp
        try simp only [Act.put, List.setIfInBounds_toArray, List.set_cons_zero, List.set_cons_succ]
        refine wpAnyH_take (i := 2) (v := .pointer (some ⟨d, 0, none⟩)) rfl (by kernel_rfl) (by kernel_rfl) (by kernel_rfl) (fun _ _ _ h => h) (Or.inl ⟨by rfl, fun w' hSw => ?_⟩) (by with_reducible assumption) ?_
        · clear hSw
          go_simp
        try simp only [Act.put, List.setIfInBounds_toArray, List.set_cons_zero, List.set_cons_succ]
        refine wpAnyH_take (i := 3) (v := .pointer (some ⟨d, 2, none⟩)) rfl (by kernel_rfl) (by kernel_rfl) (by kernel_rfl) (fun _ _ _ h => h) (Or.inl ⟨by rfl, fun w' hSw => ?_⟩) (by with_reducible assumption) ?_
        · clear hSw
          go_simp
        try simp only [Act.put, List.setIfInBounds_toArray, List.set_cons_zero, List.set_cons_succ]
        refine wpAnyH_take (i := 5) (v := .agg #[.slice al nl cl, x1, .int .i64 st, x3]) rfl (by kernel_rfl) (by kernel_rfl) (by kernel_rfl) (fun _ _ _ h => h) (Or.inl ⟨by rfl, fun w' hSw => ?_⟩) (by with_reducible assumption) ?_
        · obtain ⟨s0, s1, s2, s3⟩ := (HS4.out.but hSw HGD.out).facts
          clear hSw
          go_simp
        try simp only [Act.put, List.setIfInBounds_toArray, List.set_cons_zero, List.set_cons_succ]
        refine wpAnyH_take (i := 6) (v := .agg #[.int .i64 kd, .int .i64 nn]) rfl (by kernel_rfl) (by kernel_rfl) (by kernel_rfl) (fun _ _ _ h => h) (Or.inl ⟨by rfl, fun w' hSw => ?_⟩) (by with_reducible assumption) ?_
        · obtain ⟨s0, s1⟩ := (HX.out.but hSw HXD.out).cells
          clear hSw
          go_simp
        try simp only [Act.put, List.setIfInBounds_toArray, List.set_cons_zero, List.set_cons_succ]
        refine wpAnyH_ready (rs := [4, 7]) (by kernel_rfl) (by simp) ?_
        refine AllReadyH.cons (i := 4) rfl (fun K hK => ?_) (AllReadyH.cons (i := 7) rfl (fun K hK => ?_) AllReadyH.nil)
        · have a2 : W4.drew.cell? ⟨d, 2, none⟩ = some (.int .u64 (wordAt B 0 : Nat)) := HA4.out.cells.1.2.2.1
          have a3 : W4.drew.cell? ⟨d, 3, none⟩ = some (.int .u64 (wordAt B 1 : Nat)) := HA4.out.cells.1.2.2.2
          go_simp
          clear a2 a3
          refine hK.out _ _ hHeld (fun hHeld2 => ?_)
          clear hK K hHeld
          have hHeld := hHeld2
          clear hHeld2
          try simp only [Act.put, List.setIfInBounds_toArray, List.set_cons_zero, List.set_cons_succ]
          refine wpAnyH_ready (rs := [7]) (by kernel_rfl) (by simp) ?_
          refine AllReadyH.cons (i := 7) rfl (fun K hK => ?_) AllReadyH.nil
          go_simp
          go_wp2_with (go_at_call 62; refine (terminal_is al nl cl (by have := HNL.out; omega) x1 x3 st kd nn _).mono ?_; rintro e w6 ⟨rfl, hk6⟩; rw [HQ8.out.2]; have HK6 := hide1 (gtrans (drew_kept W4) hk6); clear hk6)
          refine hK.out _ _ (HK6.out.but d) (fun hHeld2 => ?_)
          clear hK K hHeld
          have hHeld := hHeld2
          clear hHeld2
          try simp only [Act.put, List.setIfInBounds_toArray, List.set_cons_zero, List.set_cons_succ]
          refine wpAnyH_ready (rs := [8]) (by kernel_rfl) (by simp) ?_
          refine AllReadyH.cons (i := 8) rfl (fun K hK => ?_) AllReadyH.nil
          go_simp
          go_wp2_with (go_at_call 58; refine (sWith_is B q HQ8.out.1 _).mono ?_; rintro e w7 ⟨rfl, hk7⟩; rw [setS_eq]; have HK7 := hide1 (gtrans HK6.out hk7); clear hk7)
          refine hK.out _ _ (HK7.out.but d) (fun hHeld2 => ?_)
          clear hK K hHeld
          have hHeld := hHeld2
          clear hHeld2
          try simp only [Act.put, List.setIfInBounds_toArray, List.set_cons_zero, List.set_cons_succ]
          refine wpAnyH_take (i := 9) (v := .pointer (some ⟨d, 0, none⟩)) rfl (by kernel_rfl) (by kernel_rfl) (by kernel_rfl) (fun _ _ _ h => h) (Or.inl ⟨by rfl, fun w' hSw => ?_⟩) (by with_reducible assumption) ?_
          · clear hSw
            go_simp
          try simp only [Act.put, List.setIfInBounds_toArray, List.set_cons_zero, List.set_cons_succ]
          refine wpAnyH_take (i := 10) (v := .pointer (some ⟨d, 2, none⟩)) rfl (by kernel_rfl) (by kernel_rfl) (by kernel_rfl) (fun _ _ _ h => h) (Or.inl ⟨by rfl, fun w' hSw => ?_⟩) (by with_reducible assumption) ?_
          · clear hSw
            go_simp
          try simp only [Act.put, List.setIfInBounds_toArray, List.set_cons_zero, List.set_cons_succ]
          refine wpAnyH_ready (rs := [11]) (by kernel_rfl) (by simp) ?_
          refine AllReadyH.cons (i := 11) rfl (fun K hK => ?_) AllReadyH.nil
          have HA7 := hide1 (HA4.out.keep HK7.out)
          obtain ⟨⟨a0, a1, a2, a3⟩, z0, z1, z2, z3⟩ := HA7.out.cells
          go_simp
          clear a0 a1 a2 a3 z0 z1 z2 z3
          have HA8 := hide1 (HA7.out.setT (B ||| 2 ^ q))
          have HK8 : Hid (KeptBut d W4 ((w7.setCell ⟨d, 2, none⟩ (.int .u64 (wordAt (B ||| 2 ^ q) 0 : Nat))).setCell ⟨d, 3, none⟩ (.int .u64 (wordAt (B ||| 2 ^ q) 1 : Nat)))) := but_set (but_set (HK7.out.but d) _ _) _ _
          refine hK.out _ _ HK8.out (fun hHeld2 => ?_)
          clear hK K hHeld
          have hHeld := hHeld2
          clear hHeld2
          try simp only [Act.put, List.setIfInBounds_toArray, List.set_cons_zero, List.set_cons_succ]
          refine wpAnyH_done (by kernel_rfl) ?_ _
          clear hHeld
          go_wp2_with fail
          go_roundw
          case rel => exact ⟨j + 1, _, _, by go_num, by rw [HROW.out]; omega, HD2, HA8, HKr.out.trans ((HK4.out.but d).trans HK8.out)⟩
          case measure => simp [intOf]; omega
        · go_simp
          go_wp2_with (go_at_call 62; refine (terminal_is al nl cl (by have := HNL.out; omega) x1 x3 st kd nn _).mono ?_; rintro e w6 ⟨rfl, hk6⟩; rw [HQ8.out.2]; have HK6 := hide1 (gtrans (drew_kept W4) hk6); clear hk6)
          refine hK.out _ _ (HK6.out.but d) (fun hHeld2 => ?_)
          clear hK K hHeld
          have hHeld := hHeld2
          clear hHeld2
          try simp only [Act.put, List.setIfInBounds_toArray, List.set_cons_zero, List.set_cons_succ]
          refine wpAnyH_ready (rs := [4]) (by kernel_rfl) (by simp) ?_
          refine AllReadyH.cons (i := 4) rfl (fun K hK => ?_) AllReadyH.nil
          have a2 : w6.cell? ⟨d, 2, none⟩ = some (.int .u64 (wordAt B 0 : Nat)) := (HA4.out.keep HK6.out).cells.1.2.2.1
          have a3 : w6.cell? ⟨d, 3, none⟩ = some (.int .u64 (wordAt B 1 : Nat)) := (HA4.out.keep HK6.out).cells.1.2.2.2
          go_simp
          clear a2 a3
          refine hK.out _ _ hHeld (fun hHeld2 => ?_)
          clear hK K hHeld
          have hHeld := hHeld2
          clear hHeld2
          try simp only [Act.put, List.setIfInBounds_toArray, List.set_cons_zero, List.set_cons_succ]
          refine wpAnyH_ready (rs := [8]) (by kernel_rfl) (by simp) ?_
          refine AllReadyH.cons (i := 8) rfl (fun K hK => ?_) AllReadyH.nil
          go_simp
          go_wp2_with (go_at_call 58; refine (sWith_is B q HQ8.out.1 _).mono ?_; rintro e w7 ⟨rfl, hk7⟩; rw [setS_eq]; have HK7 := hide1 (gtrans HK6.out hk7); clear hk7)
          refine hK.out _ _ (HK7.out.but d) (fun hHeld2 => ?_)
          clear hK K hHeld
          have hHeld := hHeld2
          clear hHeld2
          try simp only [Act.put, List.setIfInBounds_toArray, List.set_cons_zero, List.set_cons_succ]
          refine wpAnyH_take (i := 9) (v := .pointer (some ⟨d, 0, none⟩)) rfl (by kernel_rfl) (by kernel_rfl) (by kernel_rfl) (fun _ _ _ h => h) (Or.inl ⟨by rfl, fun w' hSw => ?_⟩) (by with_reducible assumption) ?_
          · clear hSw
            go_simp
          try simp only [Act.put, List.setIfInBounds_toArray, List.set_cons_zero, List.set_cons_succ]
          refine wpAnyH_take (i := 10) (v := .pointer (some ⟨d, 2, none⟩)) rfl (by kernel_rfl) (by kernel_rfl) (by kernel_rfl) (fun _ _ _ h => h) (Or.inl ⟨by rfl, fun w' hSw => ?_⟩) (by with_reducible assumption) ?_
          · clear hSw
            go_simp
          try simp only [Act.put, List.setIfInBounds_toArray, List.set_cons_zero, List.set_cons_succ]
          refine wpAnyH_ready (rs := [11]) (by kernel_rfl) (by simp) ?_
          refine AllReadyH.cons (i := 11) rfl (fun K hK => ?_) AllReadyH.nil
          have HA7 := hide1 (HA4.out.keep HK7.out)
          obtain ⟨⟨a0, a1, a2, a3⟩, z0, z1, z2, z3⟩ := HA7.out.cells
          go_simp
          clear a0 a1 a2 a3 z0 z1 z2 z3
          have HA8 := hide1 (HA7.out.setT (B ||| 2 ^ q))
          have HK8 : Hid (KeptBut d W4 ((w7.setCell ⟨d, 2, none⟩ (.int .u64 (wordAt (B ||| 2 ^ q) 0 : Nat))).setCell ⟨d, 3, none⟩ (.int .u64 (wordAt (B ||| 2 ^ q) 1 : Nat)))) := but_set (but_set (HK7.out.but d) _ _) _ _
          refine hK.out _ _ HK8.out (fun hHeld2 => ?_)
          clear hK K hHeld
          have hHeld := hHeld2
          clear hHeld2
          try simp only [Act.put, List.setIfInBounds_toArray, List.set_cons_zero, List.set_cons_succ]
          refine wpAnyH_done (by kernel_rfl) ?_ _
          clear hHeld
          go_wp2_with fail
          go_roundw
          case rel => exact ⟨j + 1, _, _, by go_num, by rw [HROW.out]; omega, HD2, HA8, HKr.out.trans ((HK4.out.but d).trans HK8.out)⟩
          case measure => simp [intOf]; omega
    · have hjn : j = row.length := by have := HROW.out; omega
      have HD2 : Hid (takeM nl row (A0, B0) = (A, B)) := by
        show _ = _
        rw [HM.out, List.drop_of_length_le (by omega)]
        rfl
      go_wp2_with fail
      go_end0
      exact ⟨rfl, by rw [HD2.out]; exact HAr.out, (HK1.out.but d).trans HKr.out⟩

end Ex
end Go.Proofs.YtooelfjceehmmaaDoor
