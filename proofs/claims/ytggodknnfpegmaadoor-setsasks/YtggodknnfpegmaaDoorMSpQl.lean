import Derived.Test.YtggodknnfpegmaaDoorMSpDf
import Derived.Test.YtggodknnfpegmaaDoorMSpKp
import Derived.Test.YtggodknnfpegmaaDoorMSpTs
import Derived.BigQuiet
import Derived.Deep.RegionHeld3
import Derived.OwnWalk
namespace Go.Proofs.YtggodknnfpegmaaDoor
open Go.RowKit
attribute [local go_sem] Oper.semAt_some
namespace Ex

theorem SBox.free {w : World} {b : Nat} {x0 x1 x2 x3 : Value} (h : SBox w b x0 x1 x2 x3) : w.frozen? ⟨b, 3, none⟩ = false := by simp [World.frozen?, show w.heap[b]? = _ from h]
theorem IntsO.low {w : World} {base b : Nat} {v : Value} {l : List Int} (h : IntsO w base v l) (hb : b ≤ base) : IntsO w b v l := by
  have h2 : w.ownsRow base 3 1 v l.length (flatS l) := h
  refine ⟨h2.1, ?_⟩
  rcases h2.2 with ⟨e, h0⟩ | ⟨g, cap, cur, e, hg0, rest⟩
  · exact .inl ⟨e, h0⟩
  · exact .inr ⟨g, cap, cur, e, Nat.le_trans hb hg0, rest⟩
theorem PBox.fill {w : World} {b : Nat} {l v : Value} (h : PBox w b l v) (l' v' : Value) : PBox ((w.setCell ⟨b, 0, none⟩ l').setCell ⟨b, 1, none⟩ v') b l' v' := by
  unfold PBox at h ⊢
  have hl : b < w.heap.size := (Array.getElem?_eq_some_iff.1 h).1
  have he : w.heap[b] = Obj.cells #[l, v] 40 (0, 0) := by rw [Array.getElem?_eq_getElem hl] at h; exact Option.some.inj h
  simp [World.setCell, Array.getElem_modify, hl, he]
theorem PBox.free {w : World} {b : Nat} {l v : Value} (h : PBox w b l v) (i : Nat) : w.frozen? ⟨b, i, none⟩ = false := by simp [World.frozen?, show w.heap[b]? = _ from h]
def LeI (l1 l2 : List Int) (W : World) (vi : Value) (wr : World) : Prop := ∃ j : Nat, vi = .int .i64 (j : Int) ∧ j ≤ l1.length ∧ Hid (lessI l1 l2 = lessI (l1.drop j) (l2.drop j)) ∧ Hid (Kept W wr)
theorem drop_at {l : List Int} {j : Nat} {x : Int} (h : l[j]? = some x) : l.drop j = x :: l.drop (j + 1) := by
  obtain ⟨h1, h2⟩ := List.getElem?_eq_some_iff.1 h
  rw [List.drop_eq_getElem_cons h1, h2]
set_option linter.unusedSimpArgs false in
set_option maxRecDepth 100000 in
set_option maxHeartbeats 4000000 in
/-- Does the one row stand ahead of the other? -/
theorem gLess_is (a1 a2 : Option Addr) (n1 c1 n2 c2 : Nat) (l1 l2 : List Int) (w : World) (e1 : l1.length = n1) (e2 : l2.length = n2) (h1 : IntsR w (.slice a1 n1 c1) l1) (h2 : IntsR w (.slice a2 n2 c2) l2) :
    Calls Tryd.prog 60 #[.slice a1 n1 c1, .slice a2 n2 c2] w fun e w' => e = .returned (.bool (shorter l1 l2)) ∧ Kept w w' := by
  obtain ⟨_, _, q1, hc1, hn1⟩ := SliceOf.len h1
  obtain ⟨_, _, q2, hc2, hn2⟩ := SliceOf.len h2
  simp only [Value.slice.injEq] at q1 q2
  obtain ⟨rfl, en1, rfl⟩ := q1
  obtain ⟨rfl, en2, rfl⟩ := q2
  clear en1 en2
  rw [e1] at hc1 hn1
  rw [e2] at hc2 hn2
  have g1 : (n1 : Int) ≤ 17592186044416 := by omega
  have g2 : (n2 : Int) ≤ 17592186044416 := by omega
  have H1 := hide1 h1
  have H2 := hide1 h2
  have E1 := hide1 e1
  have E2 := hide1 e2
  clear h1 h2 e1 e2
  go_enter Tryd.func60, Tryd.ntmps60
  by_cases hn : n1 = n2
  · subst hn
    have HLL : Hid (shorter l1 l2 = lessI l1 l2) := hide1 (by unfold shorter; rw [E1.out, E2.out]; simp)
    have hb0 : ((n1 : Int) != (n1 : Int)) = false := by simp
    go_wp2_with fail
    go_loopw [5] (LeI l1 l2 w) (fun i _ => n1 - (intOf i).toNat)
    case atStart => exact ⟨0, rfl, Nat.zero_le _, rfl, Kept.refl w⟩
    case round =>
      obtain ⟨j, rfl, hj, HT, HKr⟩ := hrel
      rw [E1.out] at hj
      by_cases hlt : (j : Int) < (n1 : Int)
      · obtain ⟨x, hx⟩ : ∃ x, l1[j]? = some x := ⟨_, List.getElem?_eq_getElem (by have := E1.out; omega)⟩
        obtain ⟨y, hy⟩ : ∃ y, l2[j]? = some y := ⟨_, List.getElem?_eq_getElem (by have := E2.out; omega)⟩
        obtain ⟨b1, o1, ea1, k1⟩ := (H1.out.keep HKr.out).at_ hx
        obtain ⟨b2, o2, ea2, k2⟩ := (H2.out.keep HKr.out).at_ hy
        have HD : Hid (lessI l1 l2 = (decide (x < y) || (x == y && lessI (l1.drop (j + 1)) (l2.drop (j + 1))))) := hide1 (by rw [HT.out, drop_at hx, drop_at hy]; rfl)
        subst ea1 ea2
        have gj1 : (j : Int) < (c1 : Int) := by omega
        have gj2 : (j : Int) < (c2 : Int) := by omega
        clear hx hy
        by_cases hxy : x = y
        · have hb : (x != y) = false := by simp [hxy]
          have HT2 : Hid (lessI l1 l2 = lessI (l1.drop (j + 1)) (l2.drop (j + 1))) := hide1 (by rw [HD.out, hxy]; simp)
          clear hxy
          go_upto_region 6 with fail
          go_quiet (fail)
          go_wp2_with fail
          go_roundw
          case rel => exact ⟨j + 1, by go_num, by rw [E1.out]; omega, HT2, gtrans HKr.out (drewN_kept _ _)⟩
          case measure => simp [intOf]; omega
        · have hb : (x != y) = true := by simpa using hxy
          have HT2 : Hid (lessI l1 l2 = decide (x < y)) := hide1 (by rw [HD.out]; simp [hxy])
          clear hxy
          go_upto_region 6 with fail
          go_quiet (fail)
          have HK6 := hide1 (gtrans HKr.out (drewN_kept wr nq))
          have k1' := grown_cell (drewN_kept wr nq) k1
          have k2' := grown_cell (drewN_kept wr nq) k2
          clear k1 k2
          generalize wr.drewN nq = W6 at HK6 k1' k2' ⊢
          by_cases hxl : x < y
          · have HT3 : Hid (shorter l1 l2 = true) := hide1 (by rw [HLL.out, HT2.out]; simpa using hxl)
            go_upto_region 7 with fail
            go_quiet (fail)
            go_wp2_with fail
            go_ret
            exact ⟨by rw [HT3.out]; rfl, gtrans HK6.out (drewN_kept _ _)⟩
          · have HT3 : Hid (shorter l1 l2 = false) := hide1 (by rw [HLL.out, HT2.out]; simpa using hxl)
            go_upto_region 7 with fail
            go_quiet (fail)
            go_wp2_with fail
            go_ret
            exact ⟨by rw [HT3.out]; rfl, gtrans HK6.out (drewN_kept _ _)⟩
      · have HE : Hid (shorter l1 l2 = false) := hide1 (by
          rw [HLL.out, HT.out, List.drop_of_length_le (by have := E1.out; omega), List.drop_of_length_le (by have := E2.out; omega)]
          rfl)
        go_wp2_with fail
        go_ret
        exact ⟨by rw [HE.out]; rfl, HKr.out⟩
  · have hb0 : ((n1 : Int) != (n2 : Int)) = true := by simp; omega
    by_cases hl : (n1 : Int) < (n2 : Int)
    · have HE : Hid (shorter l1 l2 = true) := hide1 (by unfold shorter; rw [E1.out, E2.out]; simp; left; omega)
      go_wp2_with fail
      go_ret
      exact ⟨by rw [HE.out]; rfl, Kept.refl w⟩
    · have HE : Hid (shorter l1 l2 = false) := hide1 (by unfold shorter; rw [E1.out, E2.out]; simp; omega)
      go_wp2_with fail
      go_ret
      exact ⟨by rw [HE.out]; rfl, Kept.refl w⟩
theorem ints_zero {w : World} {base : Nat} {v : Value} {l : List Int} (hown : IntsO w base v l) (a : Option Addr) (cap : Nat) (ty : TypeId) :
    (Builtin.append_ #[41, 41] ty #[v, .slice a 0 cap]).run Tryd.prog w = .ok v w := by
  obtain ⟨i0, hi, hz0, hz1, hz2⟩ := info_parts sint_info
  have ht : Tryd.prog.underlying 41 = some (.slice 3) := Tryd.underlying41
  have h2 : w.ownsRow base 3 1 v l.length (flatS l) := hown
  rcases h2.2 with ⟨rfl, h0⟩ | ⟨g, c, cur, rfl, _, _, hnc, _⟩
  · cases a <;> simp [Builtin.append_, run_underlying ht, sizeOf, typeInfo, hi, Builtin.lenOf, Builtin.firstCells, loadCells, loadCellsFrom, Result.andThen]
  · cases a <;> simp [Builtin.append_, run_underlying ht, sizeOf, typeInfo, hi, Builtin.lenOf, Builtin.firstCells, hnc, storeCells, loadCells, loadCellsFrom, Result.andThen]
set_option maxRecDepth 100000 in
/-- append of a list of ints that can be read, to one of the call's own. -/
theorem wpl_intsL {ops : Array Oper} {rest : List Oper} {o : Oper} {a : Act} {Q : Exit → Act → World → Prop} (hgd : o.guard = none) (s x : Operand)
    (ho : o.op = .call { callee := .builtin .append, args := #[s, x], argTypes := #[41, 41] }) (w0 W : World) (base : Nat) (v : Value) (l : List Int) (hs : a.eval s = v) (hb : w0.heap.size ≤ base) (hB : base ≤ W.heap.size) (hk : Kept w0 W) (hown : IntsO W base v l)
    (xv : Value) (ys zs : List Int) (n : Nat) (hz : l ++ ys = zs) (hn : zs.length = n) (hx : a.eval x = xv) (hv : IntsR W xv ys) (hl : n ≤ 8388608)
    (h : ∀ b' c' w', IntsO w' base (.slice b' n c') zs → Kept w0 w' → W.grownBy w' v.ownBlock → wpList Tryd.prog ops Q rest (a.put o.dst (.slice b' n c')) w') : wpList Tryd.prog ops Q (o :: rest) a W := by
  subst hz
  rw [List.length_append] at hn
  obtain ⟨av, cv, rfl, hcl, _⟩ := SliceOf.len hv
  by_cases hy : ys = []
  · subst hy
    obtain ⟨b', c', rfl⟩ := hown.form
    rw [List.append_nil] at h
    have hr := ints_zero hown av cv o.type
    obtain rfl : l.length = n := by simpa using hn
    exact Lib.wpList_append_run W hgd s x _ _ ho _ _ hs hx _ W hr (h b' c' W hown hk ⟨rfl, rfl, rfl, Nat.le_refl _, fun _ _ _ => rfl⟩)
  · obtain ⟨y, ys', rfl⟩ : ∃ y ys', ys = y :: ys' := by
      cases ys with
      | nil => exact absurd rfl hy
      | cons y ys' => exact ⟨y, ys', rfl⟩
    obtain ⟨g, o', rfl, _⟩ := hv.at_ (i := 0) (x := y) rfl
    obtain ⟨i0, hi, hz0, hz1, hz2⟩ := info_parts sint_info
    refine wpList_append_lies W hgd s x 41 ho base 3 i0 _ 1 8 Tryd.underlying41 hi hz0 hz1 hz2 rfl (by decide) v l.length (flatS l) hs hown ⟨g, o', none⟩ (y :: ys').length cv (flatS (y :: ys')) hx (by unfold flatS; rw [List.length_map]; omega) ?_ ?_ (by simp) (by unfold maxLen; omega) (by omega) hB W.heap.size rfl ?_
    · intro j u hj
      unfold flatS at hj
      rw [List.getElem?_map] at hj
      obtain ⟨z, hz, rfl⟩ := Option.map_eq_some_iff.1 hj
      obtain ⟨g2, o2, e, k⟩ := hv.at_ hz
      injection e with e
      injection e with e1 e2 _
      subst e1 e2
      rw [Addr.add_mid]
      exact k
    · intro u hu
      unfold flatS at hu
      obtain ⟨z, _, rfl⟩ := List.mem_map.1 hu
      rfl
    · intro g' cap w' h1 h2 _ _
      refine (hn ▸ h (some ⟨g', 0, none⟩) cap w' ?_ ?_ h2)
      · rw [← hn]
        show w'.ownsRow base 3 1 _ (l ++ (y :: ys')).length (flatS (l ++ (y :: ys')))
        unfold flatS
        rw [List.length_append, List.map_append]
        exact h1
      · exact ⟨h2.os.trans hk.1, h2.tape.trans hk.2.1, h2.output.trans hk.2.2.1, Nat.le_trans hk.size h2.size, fun d hd => (h2.block d (Nat.lt_of_lt_of_le hd hk.size) (fun e => by have := (hown.lt d e.symm).1; omega)).trans (hk.2.2.2.2 d hd)⟩
theorem SetB.zero (w : World) : SetB (w.alloc (.cells #[.int .u64 0, .int .u64 0] 85)) w.heap.size 0 := heap_alloc_new w _
theorem restQ_zero {k : Nat} {lex : List (LexM k)} {ps : List ProdM} {nn nl : Nat} {st : Int} : ∀ (m j : Nat) (x : Int × Int), restQ lex ps nn nl st m j x → x.1 = 0 → x = (0, 0)
  | 0, _, _, h, _ => h
  | m + 1, j, x, ⟨a, _, h⟩, hx => by
    rcases h with ⟨hn, rfl⟩ | ⟨_, h⟩
    · exact absurd hx hn
    · exact restQ_zero m (j + 1) x h hx
theorem checkQ_zero {k : Nat} {lex : List (LexM k)} {ps : List ProdM} {nn nl : Nat} {st : Int} {x : Int × Int} (h : CheckQ lex ps nn nl st x) (hx : x.1 = 0) : x = (0, 0) := restQ_zero 5 0 x h hx
set_option linter.unusedSimpArgs false in
set_option maxRecDepth 100000 in
set_option maxHeartbeats 4000000 in
theorem fault7_is (xe xa : Int) (hz : xe = 0 → xa = 0) (w : World) : Calls Tryd.prog 19 #[.int .i64 xa, .int .i64 xe] w fun e w' => e = .returned (.agg #[.int .i64 xe, .int .i64 xa, .string ⟨#[]⟩]) ∧ Kept w w' := by
  have HK : Hid (Kept w (w.alloc (.cells #[.int .i64 0, .int .i64 0, .string ⟨#[]⟩] 44))) := (Kept.refl w).alloc _ _
  have HF := hide1 (FlBox.new w)
  go_enter Tryd.func19, Tryd.ntmps19
  go_upto_region 1 with fail
  obtain ⟨W, hW⟩ : ∃ W, w.alloc (.cells #[.int .i64 0, .int .i64 0, .string ⟨#[]⟩] 44) = W := ⟨_, rfl⟩
  rw [hW] at HK HF ⊢
  clear hW
  obtain ⟨b, hb⟩ : ∃ b, w.heap.size = b := ⟨_, rfl⟩
  rw [hb] at HF ⊢
  have HSB := hide1 hb
  clear hb
  obtain ⟨⟨f0, f1, f2⟩, z0, z1, z2⟩ := HF.out.cells
  by_cases hx : xe = 0
  · obtain rfl := hx
    obtain rfl := hz rfl
    clear hz
    go_wp2_with fail
    refine bodyPost_ret (results_cell_row rfl _ _ b 44 _ (0, 0) _ rfl (HF.out.fill 0 0) Tryd.underlying44 rfl (fault_size _ _)) rfl ?_
    exact ⟨rfl, keepB (keepB (keepB HK.out (by rw [HSB.out]; omega)) (by rw [HSB.out]; omega)) (by rw [HSB.out]; omega)⟩
  · have b0 : (xe == 0) = false := by simpa using hx
    clear hx hz
    go_wp2_with fail
    refine bodyPost_ret (results_cell_row rfl _ _ b 44 _ (0, 0) _ rfl (HF.out.fill xe xa) Tryd.underlying44 rfl (fault_size _ _)) rfl ?_
    exact ⟨rfl, keepB (keepB (keepB HK.out (by rw [HSB.out]; omega)) (by rw [HSB.out]; omega)) (by rw [HSB.out]; omega)⟩
theorem lex_sizes {k : Nat} {w : World} {v : Value} {lex : List (LexM k)} (h : LexAt w k v lex) : ∀ l ∈ lex, l.1.size ≤ 200000000000000 := by
  obtain ⟨a, cap, h1, h2, h3, h4⟩ := h
  intro l hl
  rcases h4 with h4 | ⟨c, o, h5, h6, h7⟩
  · subst h4; cases hl
  · obtain ⟨i, hi⟩ := List.getElem?_of_mem hl
    obtain ⟨cs, g1, g2, v2, g3, g4, g5⟩ := h7 i l hi
    exact g4
theorem fl_new (w : World) (xe xa : Int) : FlBox (w.alloc (.cells #[.int .i64 xe, .int .i64 xa, .string ⟨#[]⟩] 44)) w.heap.size xe xa ∧ Kept w (w.alloc (.cells #[.int .i64 xe, .int .i64 xa, .string ⟨#[]⟩] 44)) := ⟨heap_alloc_new w _, (Kept.refl w).alloc _ _⟩


end Ex
end Go.Proofs.YtggodknnfpegmaaDoor
