import Derived.Test.YtooelfjceehmmaaDoorMSpQu
namespace Go.Proofs.YtooelfjceehmmaaDoor
open Go.RowKit
attribute [local go_sem] Oper.semAt_some
namespace Ex

theorem strI_strOf (zs : List Int) (h : ∀ z ∈ zs, IsB z) : strI (strOf zs) = zs := by
  unfold strI
  rw [strOf_list]
  unfold u8s
  rw [List.map_map]
  induction zs with
  | nil => rfl
  | cons z zs ih =>
    rw [List.map_cons, ih (fun y hy => h y (List.mem_cons_of_mem _ hy))]
    have hz := h z List.mem_cons_self
    unfold IsB at hz
    congr 1
    show ((UInt8.ofNat z.toNat).toNat : Int) = z
    have e1 : (UInt8.ofNat z.toNat).toNat = z.toNat % 256 := by first | rfl | simp
    rw [e1]
    omega
theorem conv_any {w : World} {base c n : Nat} {a : Option Addr} {zs : List Int} (hn : zs.length = n) (h : OutAt w base (.slice a n c) zs) : (convert 162 9 (.slice a n c)).run Tryd.prog w = .ok (.string (strOf zs)) w := by
  subst hn
  by_cases hne : zs = []
  · subst hne
    show (convert 162 9 (.slice a 0 c)).run Tryd.prog w = _
    rw [run_convert_bytes_string w 162 9 5 a 0 c Tryd.underlying162 Tryd.underlying5 Tryd.underlying9]
    cases a with
    | none => rfl
    | some g => exact run_bytesToString w g 0 c [] rfl
  · exact conv_out h hne
/-- append of a string, whatever it is. -/
theorem wp_out_any {o : Oper} {a : Act} {K : Act → World → Prop} {Q : Exit → Act → World → Prop} (sl x : Operand)
    (ho : o.op = .call { callee := .builtin .append, args := #[sl, x], argTypes := #[162, 9] }) (W : World) (base : Nat) (v : Value) (xs : List Int) (hs : a.eval sl = v) (hown : OutAt W base v xs)
    (zs : List Int) (hz : ∀ z ∈ zs, IsB z) (hx : a.eval x = .string (strOf zs)) (hl : xs.length + zs.length ≤ 1000000000) (hbase : base ≤ W.heap.size)
    (h : ∀ v' w', OutAt w' base v' (xs ++ zs) → W.grownBy w' v.ownBlock → K (a.put o.dst v') w') : o.wp Tryd.prog a W K Q := by
  obtain ⟨i0, hi, hz0, hz1, hz2⟩ := info_parts u8_info
  have hsz := strOf_size zs
  obtain ⟨v', w', hr, h2, h3, _⟩ := Lib.run_append_own_string (P := Tryd.prog) W base 162 9 o.type 5 i0 Tryd.underlying162 Tryd.underlying9 hi hz0 hz1 hz2 v xs.length (byteV xs) hown (strOf zs) (by unfold maxLen; omega) (by omega) hbase
  refine Lib.wp_append_run W sl x _ _ ho _ _ hs hx v' w' hr (h v' w' ?_ h3)
  show w'.ownsRow base 5 1 v' (xs ++ zs).length (byteV (xs ++ zs))
  rw [List.length_append, byteV_app]
  rw [strI_cells, strI_strOf zs hz, hsz] at h2
  exact h2
theorem join_start (w : World) (x0 x1 x2 x3 : Value) : SBox ((w.alloc (.cells #[x0, x1, x2, x3] 26)).alloc (.cells #[.bool false, .string ⟨#[]⟩] 130)) w.heap.size x0 x1 x2 x3 ∧ SnBox ((w.alloc (.cells #[x0, x1, x2, x3] 26)).alloc (.cells #[.bool false, .string ⟨#[]⟩] 130)) (w.heap.size + 1) none ∧ Kept w ((w.alloc (.cells #[x0, x1, x2, x3] 26)).alloc (.cells #[.bool false, .string ⟨#[]⟩] 130)) := by
  refine ⟨(SBox.new w x0 x1 x2 x3).keep ((Kept.refl _).alloc _ _), ?_, ((Kept.refl w).alloc _ _).alloc _ _⟩
  have h := heap_alloc_new (w.alloc (.cells #[x0, x1, x2, x3] 26)) (.cells #[.bool false, .string ⟨#[]⟩] 130)
  rw [World.size_alloc] at h
  exact h
/-- A sentence is answered. -/
def JnR (x : Option (List Int)) (w : World) (e : Ending) (w' : World) : Prop := e = .returned (senV x) ∧ Kept w w'
theorem one_cell (w : World) (q : Int) (i : Nat) (y : Int) (hy : [q][i]? = some y) : (w.alloc (.cells #[.int .u8 q] 5)).cell? ⟨w.heap.size, i, none⟩ = some (.int .u8 y) := by
  have h := heap_alloc_new w (.cells #[.int .u8 q] 5)
  match i, hy with
  | 0, hy =>
    have e : q = y := by simpa using hy
    subst e
    simp only [World.cell?, h]
    rfl
  | i + 1, hy => simp at hy
def JnI (nl : Nat) (L : Nat → Option (List Int)) (row : List SymM) (W : World) (v7 vi : Value) (wr : World) : Prop := ∃ (j n : Nat) (xs : List Int), vi = .int .i64 (j : Int) ∧ j ≤ row.length ∧ (∃ a c, v7 = .slice a n c) ∧ n ≤ 4096 ∧ Hid (xs.length = n) ∧ Hid (∀ z ∈ xs, IsB z) ∧ Hid (OutAt wr W.heap.size v7 xs) ∧ Hid (joinM nl L row [] = joinM nl L (row.drop j) xs) ∧ Hid (Kept W wr)
theorem out_kept {W wr w' : World} {v : Value} {xs : List Int} (hk : Kept W wr) (ho : OutAt wr W.heap.size v xs) (hg : wr.grownBy w' v.ownBlock) : Kept W w' :=
  ⟨hg.os.trans hk.1, hg.tape.trans hk.2.1, hg.output.trans hk.2.2.1, Nat.le_trans hk.size hg.size, fun k hk2 => (hg.block k (Nat.lt_of_lt_of_le hk2 hk.size) (fun e => by have := (ho.lt k e.symm).1; omega)).trans (hk.2.2.2.2 k hk2)⟩
set_option linter.unusedSimpArgs false in
set_option maxRecDepth 100000 in
set_option maxHeartbeats 8000000 in
/-- The best rows of a right side, one behind the other. -/
theorem sJoin_is (lb nl : Nat) (L : Nat → Option (List Int)) (al : Option Addr) (cl : Nat) (x1 x3 : Value) (st : Int) (ar : Option Addr) (nr cr : Nat) (row : List SymM) (w : World) (hnl : nl < 128) (hL : ∀ n r, L n = some r → (∀ z ∈ r, IsB z) ∧ r.length ≤ 4096) (hrow : row.length = nr) (hr : RightAt w (.slice ar nr cr) row) (hA : SeB w lb L) (hg : ∀ x ∈ row, SymGood x) :
    Calls Tryd.prog 92 #[.pointer (some ⟨lb, 0, none⟩), .agg #[.slice al nl cl, x1, .int .i64 st, x3], .slice ar nr cr] w (JnR (joinM nl L row []) w) := by
  have HROW := hide1 hrow
  have HR := hide1 hr
  have HG := hide1 hg
  have HNL := hide1 hnl
  have HA := hide1 hA
  have HLB := hide1 hL
  obtain ⟨_, _, e1, hc, hn⟩ := hr.len
  simp only [Value.slice.injEq] at e1
  obtain ⟨rfl, en, rfl⟩ := e1
  clear en
  rw [hrow] at hc hn
  have gn : (nr : Int) ≤ 17592186044416 := by omega
  obtain ⟨h1, h2, h3⟩ := join_start w (.slice al nl cl) x1 (.int .i64 st) x3
  have HS := hide1 h1
  have HB := hide1 h2
  have HK := hide1 h3
  have HLL := hide1 hA.lt
  clear hrow hr hg hnl hA h1 h2 h3 hL
  go_enter Tryd.func92, Tryd.ntmps92
  go_upto_region 2 with fail
  obtain ⟨W, hW⟩ : ∃ W, (w.alloc (.cells #[.slice al nl cl, x1, .int .i64 st, x3] 26)).alloc (.cells #[.bool false, .string ⟨#[]⟩] 130) = W := ⟨_, rfl⟩
  rw [hW] at HS HB HK ⊢
  clear hW
  obtain ⟨b, hb⟩ : ∃ b, w.heap.size = b := ⟨_, rfl⟩
  rw [hb] at HS HB HLL ⊢
  have HSZ := hide1 hb
  clear hb
  have HAW := hide1 (HA.out.keep HK.out)
  go_wp2_with fail
  go_loopw [7, 12] (JnI nl L row W) (fun _ i _ => nr - (intOf i).toNat)
  case atStart => exact ⟨0, 0, [], rfl, Nat.zero_le _, ⟨none, 0, rfl⟩, Nat.zero_le _, rfl, fun z hz => (by cases hz), OutAt.nil W W.heap.size, rfl, Kept.refl W⟩
  case round =>
    obtain ⟨j, n, xs, rfl, hj, ⟨a7, c7, rfl⟩, hn4, HXL, HXB, HO, HM, HKr⟩ := hrel
    rw [HROW.out] at hj
    have gn4 : (n : Int) ≤ 4096 := by omega
    have HBr := hide1 (HB.out.keep HKr.out)
    have HWL : Hid (b + 1 < W.heap.size) := HB.out.lt
    by_cases hlt : (j : Int) < (nr : Int)
    · obtain ⟨x, hx⟩ : ∃ x, row[j]? = some x := ⟨_, List.getElem?_eq_getElem (by have := HROW.out; omega)⟩
      obtain ⟨cb, ob, cs, ea, hcb, hlen, hcell, hcs⟩ := SliceOf.el (HR.out.keep (gtrans HK.out HKr.out)) hx
      have hcs : cs = [.int .i64 x.1, .int .i64 x.2] := hcs
      subst ea hcs
      have k0 : wr.cell? ⟨cb, ob + j * 2, none⟩ = some (.int .i64 x.1) := hcell 0 _ rfl
      have k1 := hcell 1 _ rfl
      have HGX := hide1 (HG.out x (List.mem_of_getElem? hx))
      have gjc : (j : Int) < (cr : Int) := by omega
      have HDR : Hid (row.drop j = x :: row.drop (j + 1)) := by
        obtain ⟨hj2, e⟩ := List.getElem?_eq_some_iff.1 hx
        show _ = _
        rw [List.drop_eq_getElem_cons hj2, e]
      have HMS : Hid (∀ a, symY nl L x = some a → joinM nl L row [] = if 4096 < (xs ++ a).length then none else joinM nl L (row.drop (j + 1)) (xs ++ a)) := fun a ha => by
        rw [HM.out, HDR.out]
        show (match symY nl L x with | none => none | some a => if 4096 < (xs ++ a).length then none else joinM nl L (row.drop (j + 1)) (xs ++ a)) = _
        rw [ha]
      have HMN : Hid (symY nl L x = none → joinM nl L row [] = none) := fun ha => by
        rw [HM.out, HDR.out]
        show (match symY nl L x with | none => none | some a => if 4096 < (xs ++ a).length then none else joinM nl L (row.drop (j + 1)) (xs ++ a)) = _
        rw [ha]
      obtain ⟨kd, nn⟩ := x
      clear hx hcell
      have HX := hide1 (XBox.new wr kd nn)
      have HK4 : Hid (Kept wr (wr.alloc (.cells #[.int .i64 kd, .int .i64 nn] 58))) := (Kept.refl wr).alloc _ _
      have HXO : Hid (∀ g, (Value.slice a7 n c7).ownBlock = some g → g < wr.heap.size) := fun g hg => (HO.out.lt g hg).2
      go_upto_region 6 with fail
      clear k0 k1
      obtain ⟨W4, hW4⟩ : ∃ W4, wr.alloc (.cells #[.int .i64 kd, .int .i64 nn] 58) = W4 := ⟨_, rfl⟩
      rw [hW4] at HX HK4 ⊢
      clear hW4
      obtain ⟨xb, hxb⟩ : ∃ xb, wr.heap.size = xb := ⟨_, rfl⟩
      rw [hxb] at HX HXO ⊢
      clear hxb
      have HO4 := hide1 (HO.out.keep HK4.out)
      have HKW4 := hide1 (gtrans HKr.out HK4.out)
      have HS4 := hide1 (HS.out.keep HKW4.out)
      have HA4 := hide1 (HAW.out.keep HKW4.out)
      have HB4 := hide1 (HBr.out.keep HK4.out)
      have HW4L : Hid (W.heap.size ≤ W4.heap.size) := HKW4.out.size
      obtain ⟨t0, t1⟩ := HX.out.cells
      by_cases h3 : kd = 3
      · subst h3
        obtain ⟨hn0, hn1⟩ := HGX.out.1 rfl
        obtain ⟨p, rfl⟩ : ∃ p : Nat, nn = (p : Int) := ⟨nn.toNat, by simp only at hn0; omega⟩
        have HP : Hid (p < 128) := by simp only at hn1; show _ < _; omega
        have gp : (p : Int) < 128 := by have := HP.out; omega
        clear hn0 hn1
        obtain ⟨c0, c1⟩ := HA4.out.cells HP.out
        have HSY : Hid (symY nl L (3, (p : Int)) = L p) := by
          show (if (3 : Int) = 3 then L p else _) = L p
          rw [if_pos rfl]
        cases hLp : L p with
        | none =>
          have HJ : Hid (joinM nl L row [] = none) := HMN.out (HSY.out.trans hLp)
          rw [hLp] at c0 c1
          rw [show (none : Option (List Int)).isSome = false from rfl] at c0
          obtain ⟨⟨r0, r1⟩, z0, z1⟩ := HB4.out.cells
          clear hLp c1
          go_upto_region 8 with fail
          go_quiet (fail)
          have HDK := hide1 (drewN_kept W4 nq)
          obtain ⟨W5, hW5⟩ : ∃ W5, W4.drewN nq = W5 := ⟨_, rfl⟩
          rw [hW5] at HDK ⊢
          clear hW5 r0 r1 z0 z1 c0 t0 t1
          have HB5 := hide1 (HB4.out.keep HDK.out)
          obtain ⟨⟨r0, r1⟩, z0, z1⟩ := HB5.out.cells
          go_wp2_with fail
          refine bodyPost_ret (results_cell_row rfl _ _ (b + 1) 130 _ (0, 0) _ rfl (HB5.out.fill none) Tryd.underlying130 rfl (sen2_size none)) rfl ?_
          exact ⟨by rw [HJ.out]; rfl, keepB (keepB (gtrans HK.out (gtrans HKW4.out HDK.out)) (by rw [HSZ.out]; omega)) (by rw [HSZ.out]; omega)⟩
        | some zs =>
          have HJ := hide1 (HMS.out zs (HSY.out.trans hLp))
          obtain ⟨hzb, hzl⟩ := HLB.out p zs hLp
          rw [hLp] at c0 c1
          rw [show (some zs).isSome = true from rfl] at c0
          rw [show (some zs).getD [] = zs from rfl] at c1
          have HZB := hide1 hzb
          have HZL := hide1 hzl
          have HLP := hide1 hLp
          clear hLp hzb hzl c1
          go_upto_region 8 with fail
          go_quiet (fail)
          have HDK := hide1 (drewN_kept W4 nq)
          obtain ⟨W5, hW5⟩ : ∃ W5, W4.drewN nq = W5 := ⟨_, rfl⟩
          rw [hW5] at HDK ⊢
          clear hW5 c0 t0 t1
          have HO5 := hide1 (HO4.out.keep HDK.out)
          have HX5 := hide1 (HX.out.keep HDK.out)
          have HKW5 := hide1 (gtrans HKW4.out HDK.out)
          go_upto_region 9 with fail
          have HCW : Hid (∀ X, Kept W X → X.cell? ⟨lb, p * 2 + 1, none⟩ = some (.string (strOf zs))) := fun X hX => by
            have h1 := (HAW.out.keep hX).cells HP.out
            rw [HLP.out] at h1
            exact h1.2
          refine wp_region_held_drew (S := fun X => Kept W X ∧ XBox X xb 3 (p : Int)) (by kernel_rfl) ⟨HKW5.out, HX5.out⟩ (fun hHeld => ?_)
          refine wpAnyH_take (i := 0) (v := .slice a7 n c7) rfl (by kernel_rfl) (by kernel_rfl) (by kernel_rfl) (fun _ _ _ h => h) (Or.inl ⟨by rfl, fun w' hSw => ?_⟩) (by with_reducible assumption) ?_
          · clear hSw
            go_simp
          try simp only [Act.put, List.setIfInBounds_toArray, List.set_cons_zero, List.set_cons_succ]
          refine wpAnyH_take (i := 1) (v := .pointer (some ⟨lb, 0, none⟩)) rfl (by kernel_rfl) (by kernel_rfl) (by kernel_rfl) (fun _ _ _ h => h) (Or.inl ⟨by rfl, fun w' hSw => ?_⟩) (by with_reducible assumption) ?_
          · clear hSw
            go_simp
          try simp only [Act.put, List.setIfInBounds_toArray, List.set_cons_zero, List.set_cons_succ]
          refine wpAnyH_take (i := 2) (v := .pointer (some ⟨xb, 1, none⟩)) rfl (by kernel_rfl) (by kernel_rfl) (by kernel_rfl) (fun _ _ _ h => h) (Or.inl ⟨by rfl, fun w' hSw => ?_⟩) (by with_reducible assumption) ?_
          · clear hSw
            go_simp
          try simp only [Act.put, List.setIfInBounds_toArray, List.set_cons_zero, List.set_cons_succ]
          refine wpAnyH_take (i := 3) (v := .int .i64 (p : Int)) rfl (by kernel_rfl) (by kernel_rfl) (by kernel_rfl) (fun _ _ _ h => h) (Or.inl ⟨by rfl, fun w' hSw => ?_⟩) (by with_reducible assumption) ?_
          · have s0 := hSw.2.cells.2
            clear hSw
            go_simp
          try simp only [Act.put, List.setIfInBounds_toArray, List.set_cons_zero, List.set_cons_succ]
          refine wpAnyH_take (i := 4) (v := .pointer (some ⟨lb, 0, none⟩)) rfl (by kernel_rfl) (by kernel_rfl) (by kernel_rfl) (fun _ _ _ h => h) (Or.inl ⟨by rfl, fun w' hSw => ?_⟩) (by with_reducible assumption) ?_
          · clear hSw
            go_simp
          try simp only [Act.put, List.setIfInBounds_toArray, List.set_cons_zero, List.set_cons_succ]
          refine wpAnyH_take (i := 5) (v := .pointer (some ⟨lb, p * 2, none⟩)) rfl (by kernel_rfl) (by kernel_rfl) (by kernel_rfl) (fun _ _ _ h => h) (Or.inl ⟨by rfl, fun w' hSw => ?_⟩) (by with_reducible assumption) ?_
          · clear hSw
            go_simp
          try simp only [Act.put, List.setIfInBounds_toArray, List.set_cons_zero, List.set_cons_succ]
          refine wpAnyH_take (i := 6) (v := .pointer (some ⟨lb, p * 2 + 1, none⟩)) rfl (by kernel_rfl) (by kernel_rfl) (by kernel_rfl) (fun _ _ _ h => h) (Or.inl ⟨by rfl, fun w' hSw => ?_⟩) (by with_reducible assumption) ?_
          · clear hSw
            go_simp
          try simp only [Act.put, List.setIfInBounds_toArray, List.set_cons_zero, List.set_cons_succ]
          refine wpAnyH_take (i := 7) (v := .string (strOf zs)) rfl (by kernel_rfl) (by kernel_rfl) (by kernel_rfl) (fun _ _ _ h => h) (Or.inl ⟨by rfl, fun w' hSw => ?_⟩) (by with_reducible assumption) ?_
          · have s0 : w'.cell? ⟨lb, p * 2 + 1, none⟩ = some (.string (strOf zs)) := HCW.out w' hSw.1
            clear hSw
            go_simp
          try simp only [Act.put, List.setIfInBounds_toArray, List.set_cons_zero, List.set_cons_succ]
          refine wpAnyH_ready (rs := [8]) (by kernel_rfl) (by simp) ?_
          refine AllReadyH.cons (i := 8) rfl (fun K hK => ?_) AllReadyH.nil
          refine if_yes (by kernel_rfl) ?_
          refine wp_out_any (.tmp 36) (.tmp 43) (by rfl) W5.drew W.heap.size (.slice a7 n c7) xs (by kernel_rfl) (HO5.out.keep (drew_kept W5)) zs HZB.out (by kernel_rfl) (by rw [HXL.out]; have := HZL.out; omega) (by exact (gtrans HKW5.out (drew_kept W5)).size) ?_
          intro v9 w9 ho9 hg9
          obtain ⟨g9, c9, hv9⟩ := ho9.form
          obtain ⟨n9, hn9⟩ : ∃ n9, (xs ++ zs).length = n9 := ⟨_, rfl⟩
          rw [hn9] at hv9
          subst hv9
          have HN9 := hide1 hn9
          have HO9 := hide1 ho9
          have HK9 : Hid (Kept W w9) := out_kept (gtrans HKW5.out (drew_kept W5)) (HO5.out.keep (drew_kept W5)) hg9
          have HX9 : Hid (XBox w9 xb 3 (p : Int)) := (hg9.block xb (by exact HX5.out.lt) (fun e => by have := HXO.out xb e.symm; omega)).trans HX5.out
          clear ho9 hg9 hn9
          refine hK.out _ _ ⟨HK9.out, HX9.out⟩ (fun hHeld2 => ?_)
          clear hK K hHeld
          have hHeld := hHeld2
          clear hHeld2
          try simp only [Act.put, List.setIfInBounds_toArray, List.set_cons_zero, List.set_cons_succ]
          refine wpAnyH_take (i := 9) (v := .slice g9 n9 c9) rfl (by kernel_rfl) (by kernel_rfl) (by kernel_rfl) (fun _ _ _ h => h) (Or.inl ⟨by rfl, fun w' hSw => ?_⟩) (by with_reducible assumption) ?_
          · clear hSw
            go_simp
          try simp only [Act.put, List.setIfInBounds_toArray, List.set_cons_zero, List.set_cons_succ]
          refine wpAnyH_done (by kernel_rfl) ?_ _
          clear hHeld
          have HB9 := hide1 (HB.out.keep HK9.out)
          obtain ⟨⟨r0, r1⟩, z0, z1⟩ := HB9.out.cells
          by_cases h4 : (4096 : Int) < (n9 : Int)
          · have HJN : Hid (joinM nl L row [] = none) := by show _ = _; rw [HJ.out, if_pos (by rw [HN9.out]; omega)]
            have hb4 : decide ((4096 : Int) < (n9 : Int)) = true := by simpa using h4
            go_wp2_with fail
            refine bodyPost_ret (results_cell_row rfl _ _ (b + 1) 130 _ (0, 0) _ rfl (HB9.out.fill none) Tryd.underlying130 rfl (sen2_size none)) rfl ?_
            exact ⟨by rw [HJN.out]; rfl, keepB (keepB (gtrans HK.out HK9.out) (by rw [HSZ.out]; omega)) (by rw [HSZ.out]; omega)⟩
          · have HJN : Hid (joinM nl L row [] = joinM nl L (row.drop (j + 1)) (xs ++ zs)) := by show _ = _; rw [HJ.out, if_neg (by rw [HN9.out]; omega)]
            clear r0 r1 z0 z1
            go_wp2_with fail
            go_roundw
            case rel => exact ⟨j + 1, n9, xs ++ zs, by go_num, by rw [HROW.out]; omega, ⟨_, _, rfl⟩, by omega, HN9, fun z hz => (List.mem_append.1 hz).elim (HXB.out z) (HZB.out z), HO9, HJN, HK9⟩
            case measure => simp [intOf]; omega
      · obtain ⟨q, hq⟩ : ∃ q, termN nl (kd, nn) = q := ⟨_, rfl⟩
        have HQ8 : Hid (q < 128 ∧ termP nl (kd, nn) = (q : Int)) := by
          have h1 := HGX.out.2 h3
          have h2 := HNL.out
          show _ ∧ _
          unfold termN at hq
          unfold termP
          by_cases e2 : kd = 2
          · rw [if_pos (show (kd, nn).1 = 2 from e2)] at hq ⊢
            omega
          · rw [if_neg (show ¬ (kd, nn).1 = 2 from e2)] at hq ⊢
            obtain ⟨a1, a2⟩ := h1 e2
            simp only at a1 a2 hq ⊢
            omega
        have HJ : Hid (joinM nl L row [] = if 4096 < (xs ++ [(q : Int)]).length then none else joinM nl L (row.drop (j + 1)) (xs ++ [(q : Int)])) := HMS.out [(q : Int)] (by
          unfold symY
          rw [if_neg (show ¬ (kd, nn).1 = 3 from h3), hq])
        have hb3 : (kd != 3) = true := by simpa using h3
        have hw8 : IntKind.u8.wrap (q : Int) = (q : Int) := by have := HQ8.out.1; rw [IntKind.wrap_u8]; omega
        have HZB : Hid (∀ z ∈ [(q : Int)], IsB z) := fun z hz => by
          rw [List.mem_singleton.1 hz]
          have := HQ8.out.1
          unfold IsB
          omega
        obtain ⟨s0, s1, s2, s3⟩ := HS4.out.facts
        clear h3 hq
        go_upto_region 10 with (first
          | (go_at_call 62; refine (terminal_is al nl cl (by have := HNL.out; omega) x1 x3 st kd nn _).mono ?_; rintro e w6 ⟨rfl, hk6⟩; rw [HQ8.out.2]; have HK6 := hide1 hk6; clear hk6)
          | (at_builtin; go_must (refine wpl_out_bytes rfl _ _ rfl _ W.heap.size _ xs n HXL.out (by rfl) ((HO4.out.keep HK6.out).keep (w' := w6.alloc (.cells #[.int .u8 (q : Int)] 5)) ((Kept.refl w6).alloc _ _)) w6.heap.size [(q : Int)] 1 rfl (by rfl) (one_cell w6 (q : Int)) (by decide) (by omega) (by exact Nat.le_trans HW4L.out (Nat.le_trans HK6.out.size (allocS_le w6 _))) ?_; intro g9 c9 w9 ho9 hg9 _; have HO9 := hide1 ho9; have HK9 : Hid (Kept W w9) := out_kept (gtrans (gtrans HKW4.out HK6.out) ((Kept.refl w6).alloc _ _)) ((HO4.out.keep HK6.out).keep ((Kept.refl w6).alloc _ _)) hg9; clear ho9 hg9)))
        clear s0 s1 s2 s3 t0 t1
        have HN9 : Hid ((xs ++ [(q : Int)]).length = n + 1) := by show _ = _; rw [List.length_append, HXL.out]; rfl
        have HB9 := hide1 (HB.out.keep HK9.out)
        obtain ⟨⟨r0, r1⟩, z0, z1⟩ := HB9.out.cells
        by_cases h4 : (4096 : Int) < (n + 1 : Int)
        · have HJN : Hid (joinM nl L row [] = none) := by show _ = _; rw [HJ.out, if_pos (by rw [HN9.out]; omega)]
          have hb4 : decide ((4096 : Int) < (n + 1 : Int)) = true := by simpa using h4
          go_wp2_with fail
          refine bodyPost_ret (results_cell_row rfl _ _ (b + 1) 130 _ (0, 0) _ rfl (HB9.out.fill none) Tryd.underlying130 rfl (sen2_size none)) rfl ?_
          exact ⟨by rw [HJN.out]; rfl, keepB (keepB (gtrans HK.out HK9.out) (by rw [HSZ.out]; omega)) (by rw [HSZ.out]; omega)⟩
        · have HJN : Hid (joinM nl L row [] = joinM nl L (row.drop (j + 1)) (xs ++ [(q : Int)])) := by show _ = _; rw [HJ.out, if_neg (by rw [HN9.out]; omega)]
          clear r0 r1 z0 z1
          go_wp2_with fail
          go_roundw
          case rel => exact ⟨j + 1, n + 1, xs ++ [(q : Int)], by go_num, by rw [HROW.out]; omega, ⟨_, _, rfl⟩, by omega, HN9, fun z hz => (List.mem_append.1 hz).elim (HXB.out z) (HZB.out z), HO9, HJN, HK9⟩
          case measure => simp [intOf]; omega
    · have HM2 : Hid (joinM nl L row [] = some xs) := by
        show _ = _
        rw [HM.out, List.drop_of_length_le (by have := HROW.out; omega)]
        rfl
      have hcv := conv_any HXL.out HO.out
      obtain ⟨⟨r0, r1⟩, z0, z1⟩ := HBr.out.cells
      go_wp2_with fail
      refine bodyPost_ret (results_cell_row rfl _ _ (b + 1) 130 _ (0, 0) _ rfl (HBr.out.fill (some xs)) Tryd.underlying130 rfl (sen2_size (some xs))) rfl ?_
      exact ⟨by rw [HM2.out]; rfl, keepB (keepB (gtrans HK.out HKr.out) (by rw [HSZ.out]; omega)) (by rw [HSZ.out]; omega)⟩

end Ex
end Go.Proofs.YtooelfjceehmmaaDoor
