import Derived.Test.YtnjmbijebckncaaMDeLe
import Derived.Test.YtnjmbijebckncaaMDeWr
namespace Go.Proofs.Ytnjmbijebckncaa
open Go.RowKit
attribute [local go_sem] Oper.semAt_some
namespace Ex
namespace Tr

theorem Kept.lo {α : Type} {E : ElK α} {w0 w w' : World} {v : Value} {l : List α} (h : Kept w0 w) (ho : LO E w w0.heap.size v l) (hg : w.grownBy w' v.ownBlock) : Kept w0 w' :=
  ⟨hg.os.trans h.1, hg.tape.trans h.2.1, hg.output.trans h.2.2.1, Nat.le_trans h.size hg.size, fun k hk => (hg.block k (Nat.lt_of_lt_of_le hk h.size) (fun e => by have := (ho.lt' k e.symm).1; omega)).trans (h.2.2.2.2 k hk)⟩
theorem Kept.lob {α : Type} {E : ElK α} {w0 w w' : World} {base : Nat} {v : Value} {l : List α} (h : Kept w0 w) (hb : w0.heap.size ≤ base) (ho : LO E w base v l) (hg : w.grownBy w' v.ownBlock) : Kept w0 w' := Kept.lo h (ho.low hb) hg
theorem src_one (w : World) (x : Int) : Src u8E (w.alloc (.cells #[.int .u8 x] 5)) (some ⟨w.heap.size, 0, none⟩) [x] := by
  refine Or.inr ⟨w.heap.size, 0, rfl, fun j u hj => ?_⟩
  have hb := World.alloc_heap_new w (.cells #[.int .u8 x] 5)
  have hf : flatE u8E [x] = [.int .u8 x] := rfl
  rw [hf] at hj
  generalize w.alloc (.cells #[.int .u8 x] 5) = W at *
  cases j with
  | zero =>
    simp only [List.getElem?_cons_zero, Option.some.injEq] at hj
    subst hj
    simp [World.cell?, hb]
  | succ j => simp at hj
theorem lo_empty (w : World) {base : Nat} (hb : base ≤ w.heap.size) : LO u8E (w.alloc (.cells #[] 5)) base (.slice (some ⟨w.heap.size, 0, none⟩) 0 0) [] := ⟨rfl, Or.inr ⟨w.heap.size, 0, #[], rfl, hb, World.alloc_heap_new w _, Nat.le_refl _, Nat.zero_le _, rfl, rfl⟩⟩
theorem Src.grow {α : Type} {E : ElK α} {w w' : World} {g o : Nat} {v : Value} {ys : List α} (h : Src E w (some ⟨g, o, none⟩) ys) (hg : w.grownBy w' v.ownBlock) (hne : v.ownBlock ≠ some g) : Src E w' (some ⟨g, o, none⟩) ys := by
  rcases h with h | ⟨g', o', h1, h2⟩
  · exact Or.inl h
  · injection h1 with h1
    injection h1 with h1 h3
    subst h1 h3
    exact Or.inr ⟨g, o, rfl, fun j u hj => (World.cell?_of_block (w := w) (a := ⟨g, o + j, none⟩) (hg.block g (World.block_lt_of_cell? w _ (h2 j u hj)) (fun e => hne e.symm))).trans (h2 j u hj)⟩
theorem LO.some {α : Type} {E : ElK α} {w : World} {base n cap : Nat} {a : Option Addr} {l : List α} (h : LO E w base (.slice a n cap) l) (hl : l ≠ []) : ∃ g, a = some ⟨g, 0, none⟩ := by
  rcases h.2 with ⟨_, h0⟩ | ⟨g, cap', cur, he, _⟩
  · exact absurd (List.length_eq_zero_iff.1 h0) hl
  · injection he with e1
    exact ⟨g, e1⟩
theorem LO.cap {α : Type} {E : ElK α} {w : World} {base n cap : Nat} {a : Option Addr} {l : List α} (h : LO E w base (.slice a n cap) l) : l.length ≤ cap := by
  rcases h.2 with ⟨_, h0⟩ | ⟨g, cap', cur, he, _, _, h3, _⟩
  · omega
  · injection he with _ _ e3
    subst e3
    exact h3
theorem cells3 {w : World} {g : Nat} {y0 y1 y2 : Value} {t : TypeId} (h : w.heap[g]? = some (.cells #[y0, y1, y2] t (0, 0))) : w.cell? ⟨g, 0, none⟩ = some y0 ∧ w.cell? ⟨g, 1, none⟩ = some y1 ∧ w.cell? ⟨g, 2, none⟩ = some y2 := by
  refine ⟨?_, ?_, ?_⟩ <;> simp [World.cell?, h]
theorem set3at2 {w : World} {g : Nat} {y0 y1 y2 : Value} {t : TypeId} (h : w.heap[g]? = some (.cells #[y0, y1, y2] t (0, 0))) (x : Value) : (w.setCell ⟨g, 2, none⟩ x).heap[g]? = some (.cells #[y0, y1, x] t (0, 0)) := by
  have hl := (Array.getElem?_eq_some_iff.1 h).1
  have he := Option.some.inj ((Array.getElem?_eq_getElem hl).symm.trans h)
  simp [World.setCell, Array.getElem_modify, hl, he]
theorem EdCp.same {w w' : World} {base : Nat} {e : EdX} {y : List Int} {c : EdX} (h : EdCp w base e y c) (hk : ∀ d, (Value.slice c.ba (c.n + 1) c.bc).ownBlock = some d → w'.heap[d]? = w.heap[d]?) : EdCp w' base e y c := ⟨h.1, h.2.1, h.2.2.1, h.2.2.2.1, h.2.2.2.2.same hk⟩
theorem ed_next {w wr wz w9 : World} {l cs : List EdX} {bs : List (List Int)} {j n : Nat} {ca : Option Addr} {cc : Nat} {c9 : EdX} {e : EdX} {y : List Int} {v9 : Value} {X : Array Value} (h1 : cs.length = j) (h2 : LO edE wr w.heap.size (.slice ca j cc) cs) (h3 : Kept w wr) (h4 : ∀ (i : Nat) (e : EdX) (y : List Int) (c : EdX), l[i]? = some e → bs[i]? = some y → cs[i]? = some c → EdCp wr w.heap.size e y c) (hk : Kept wr wz) (hoz : LO edE wz w.heap.size (.slice ca j cc) cs) (hg : (wz.alloc (.cells X 24)).grownBy w9 (Value.slice ca j cc).ownBlock) (ho : LO edE w9 w.heap.size v9 (cs ++ [c9])) (hv : LO u8E wz w.heap.size (.slice c9.ba (n + 1) c9.bc) (y ++ [165])) (he : l[j]? = some e) (hy : bs[j]? = some y) (hn : n = y.length) (hc : c9.at_ = e.at_ ∧ c9.del = e.del ∧ c9.n = n ∧ e.n = n) :
    (cs ++ [c9]).length = j + 1 ∧ LO edE w9 w.heap.size v9 (cs ++ [c9]) ∧ Kept w w9 ∧ ∀ (i : Nat) (e : EdX) (y : List Int) (c : EdX), l[i]? = some e → bs[i]? = some y → (cs ++ [c9])[i]? = some c → EdCp w9 w.heap.size e y c := by
  have hkz : Kept w wz := gtrans h3 hk
  have hka : Kept wz (wz.alloc (.cells X 24)) := (Kept.refl wz).alloc _ _
  have hby : ∀ {v : Value} {ys : List Int}, LO u8E wz w.heap.size v ys → ∀ d, v.ownBlock = some d → w9.heap[d]? = wz.heap[d]? := fun {v} {ys} hb d hd => by
    obtain ⟨cur, hc1⟩ := hb.type hd
    have hdl := (hb.lt' d hd).2
    refine (hg.block d (Nat.lt_of_lt_of_le hdl hka.size) (fun e => ?_)).trans (hka.2.2.2.2 d hdl)
    obtain ⟨cur2, hc2⟩ := hoz.type e.symm
    exact block_ne hc1 hc2 (show (5 : TypeId) ≠ 24 by decide) rfl
  refine ⟨by simp [h1], ho, Kept.lo (gtrans hkz hka) (hoz.keep hka) hg, fun i e' y' c hi1 hi2 hi3 => ?_⟩
  rcases Nat.lt_or_ge i cs.length with hlt | hge
  · rw [List.getElem?_append_left hlt] at hi3
    have hcp := h4 i e' y' c hi1 hi2 hi3
    have hcz : EdCp wz w.heap.size e' y' c := hcp.same (fun d hd => hk.2.2.2.2 d (hcp.2.2.2.2.lt' d hd).2)
    exact hcz.same (hby hcz.2.2.2.2)
  · rw [List.getElem?_append_right hge] at hi3
    have hi0 : i - cs.length = 0 := by
      rcases Nat.eq_zero_or_pos (i - cs.length) with h | h
      · exact h
      · rw [List.getElem?_eq_none (by exact h)] at hi3; cases hi3
    rw [hi0] at hi3
    simp only [List.getElem?_cons_zero, Option.some.injEq] at hi3
    subst hi3
    obtain rfl : i = j := by omega
    rw [he, Option.some.injEq] at hi1
    rw [hy, Option.some.injEq] at hi2
    subst hi1 hi2
    obtain ⟨g1, g2, g3, g4⟩ := hc
    refine ⟨g1, g2, by rw [g3, g4], by rw [g4]; exact hn, ?_⟩
    rw [g3]
    exact hv.same (hby hv)

/-- What 'edits' has made: copies, and one more edit behind them. -/
def EdMade (w : World) (base g ec : Nat) (l : List EdX) (bs : List (List Int)) (cs : List EdX) : Prop :=
  cs.length = l.length ∧ LO edE w base (.slice (some ⟨g, 0, none⟩) (l.length + 1) ec) (cs ++ [⟨77, 0, none, 0, 0⟩]) ∧ ∀ (i : Nat) (e : EdX) (y : List Int) (c : EdX), l[i]? = some e → bs[i]? = some y → cs[i]? = some c → EdCp w base e y c
def EdOut (w : World) (l : List EdX) (bs : List (List Int)) (e : Ending) (w' : World) : Prop := ∃ g ec cs, e = .returned (.slice (some ⟨g, 0, none⟩) l.length ec) ∧ EdMade w' w.heap.size g ec l bs cs ∧ Kept w w'

set_option linter.unusedSimpArgs false in
set_option maxRecDepth 100000 in
set_option maxHeartbeats 4000000 in
theorem edits_is (v : Value) (l : List EdX) (bs : List (List Int)) (w : World) (h : EdIn w v l bs) (hl : l.length * 40 ≤ 140737488351232) :
    Calls Try.prog 11 #[v] w (EdOut w l bs) := by
  obtain ⟨m, hm⟩ : ∃ m, l.length = m := ⟨_, rfl⟩
  obtain ⟨va, vc, rfl⟩ : ∃ a c, v = .slice a m c := by obtain ⟨⟨a, c, h, _⟩, _⟩ := h; exact ⟨a, c, by rw [← hm]; exact h⟩
  have hcap : m ≤ vc := by obtain ⟨⟨a, c, h, h2, _⟩, _⟩ := h; injection h with _ _ h3; subst h3; rw [← hm]; exact h2
  have HIN := hide1 h
  have HM := hide1 hm
  have hmI : (m : Int) ≤ 3518437208781 := by omega
  have hcI : (m : Int) ≤ (vc : Int) := by omega
  clear h hcap hm hl
  go_enter Try.func11, Try.ntmps11
  go_wp2_with fail
  go_loopw [3, 4] (fun v3 v4 wr => ∃ (j : Nat) (cs : List EdX) (ca : Option Addr) (cc : Nat), v3 = .slice ca j cc ∧ v4 = .int .i64 (j : Int) ∧ j ≤ m ∧ Hid (cs.length = j ∧ LO edE wr w.heap.size (.slice ca j cc) cs ∧ Kept w wr ∧ ∀ (i : Nat) (e : EdX) (y : List Int) (c : EdX), l[i]? = some e → bs[i]? = some y → cs[i]? = some c → EdCp wr w.heap.size e y c)) (fun _ v4 _ => m - (intOf v4).toNat)
  case atStart => exact ⟨0, [], none, 0, rfl, rfl, Nat.zero_le _, rfl, LO.nil _ _, Kept.refl w, fun i e y c _ _ h => by simp at h⟩
  case round =>
    obtain ⟨j, cs, ca, cc, rfl, rfl, hj, hI⟩ := hrel
    by_cases hjm : j < m
    · obtain ⟨e, he⟩ : ∃ e, l[j]? = some e := ⟨_, List.getElem?_eq_getElem (by rw [HM.out]; exact hjm)⟩
      obtain ⟨y, hy⟩ : ∃ y, bs[j]? = some y := ⟨_, List.getElem?_eq_getElem (by rw [HIN.out.2.1, HM.out]; exact hjm)⟩
      obtain ⟨hrd, _, hby⟩ := HIN.out.keep hI.out.2.2.1
      obtain ⟨b1, b2, b3, b4⟩ := hby j e y he hy
      obtain ⟨a', cap', hv', _, hrd⟩ := hrd
      obtain ⟨g, o, rfl, r0, r1, r2⟩ := hrd j _ he
      injection hv' with hv1 hv2 hv3
      subst hv1
      obtain ⟨at_, del, ba, n, bc⟩ := e
      dsimp only at r0 r1 r2 b1 b2 b3 b4
      have hjI : (j : Int) < (m : Int) := by omega
      have HSRC := hide1 b4
      have HB1 := hide1 b1
      have HI := hide1 hI.out
      clear hv2 hv3 hrd hby b4 hI b1
      go_upto_region 6 with fail
      obtain ⟨xb, hxb⟩ : ∃ xb, wr.heap.size = xb := ⟨_, rfl⟩
      obtain ⟨wx, hwx⟩ : ∃ wx, wr.alloc (.cells #[.int .i64 at_, .int .i64 del, .slice ba n bc] 24) = wx := ⟨_, rfl⟩
      have hkX : Kept wr wx := by rw [← hwx]; exact (Kept.refl wr).alloc _ _
      have HXB : Hid (wx.heap[xb]? = some (.cells #[.int .i64 at_, .int .i64 del, .slice ba n bc] 24 (0, 0))) := by rw [← hwx, ← hxb]; exact World.alloc_heap_new wr _
      have hxl : xb < wx.heap.size := (Array.getElem?_eq_some_iff.1 HXB.out).1
      have hxw : wr.heap.size ≤ xb := by omega
      have r2x := grown_cell hkX r2
      have HSX := hide1 (HSRC.out.keep hkX)
      have HKX := hide1 hkX
      obtain ⟨xz, hxz⟩ : ∃ xz, wx.heap.size = xz := ⟨_, rfl⟩
      have HXZ0 := hide1 hxz
      have hxlz : xb < xz := by omega
      clear hxz
      rw [hwx, hxb]
      clear hwx hxb hkX r0 r1
      refine wp_region_held_drew (S := fun w' => w'.cell? ⟨g, o + j * 3 + 2, none⟩ = some (.slice ba n bc)) (by kernel_rfl) r2x (fun hHeld => ?_)
      refine wpAnyH_take (i := 1) (v := .slice (some ⟨g, o, none⟩) m vc) rfl (by kernel_rfl) (by kernel_rfl) (by kernel_rfl) (fun _ _ _ h => h) (Or.inl ⟨by rfl, fun w' hSw => ?_⟩) (by with_reducible assumption) ?_
      · clear hSw; go_simp
      try simp only [Act.put, List.setIfInBounds_toArray, List.set_cons_zero, List.set_cons_succ]
      refine wpAnyH_take (i := 2) (v := .int .i64 (j : Int)) rfl (by kernel_rfl) (by kernel_rfl) (by kernel_rfl) (fun _ _ _ h => h) (Or.inl ⟨by rfl, fun w' hSw => ?_⟩) (by with_reducible assumption) ?_
      · clear hSw; go_simp
      try simp only [Act.put, List.setIfInBounds_toArray, List.set_cons_zero, List.set_cons_succ]
      refine wpAnyH_take (i := 3) (v := .pointer (some ⟨g, o + j * 3, none⟩)) rfl (by kernel_rfl) (by kernel_rfl) (by kernel_rfl) (fun _ _ _ h => h) (Or.inl ⟨by rfl, fun w' hSw => ?_⟩) (by with_reducible assumption) ?_
      · clear hSw; go_simp
      try simp only [Act.put, List.setIfInBounds_toArray, List.set_cons_zero, List.set_cons_succ]
      refine wpAnyH_take (i := 4) (v := .pointer (some ⟨g, o + j * 3 + 2, none⟩)) rfl (by kernel_rfl) (by kernel_rfl) (by kernel_rfl) (fun _ _ _ h => h) (Or.inl ⟨by rfl, fun w' hSw => ?_⟩) (by with_reducible assumption) ?_
      · clear hSw; go_simp
      try simp only [Act.put, List.setIfInBounds_toArray, List.set_cons_zero, List.set_cons_succ]
      refine wpAnyH_take (i := 5) (v := .slice ba n bc) rfl (by kernel_rfl) (by kernel_rfl) (by kernel_rfl) (fun _ _ _ h => h) (Or.inl ⟨by rfl, fun w' hSw => ?_⟩) (by with_reducible assumption) ?_
      · go_simp
      try simp only [Act.put, List.setIfInBounds_toArray, List.set_cons_zero, List.set_cons_succ]
      refine wpAnyH_take (i := 9) (v := .slice (some ⟨g, o, none⟩) m vc) rfl (by kernel_rfl) (by kernel_rfl) (by kernel_rfl) (fun _ _ _ h => h) (Or.inl ⟨by rfl, fun w' hSw => ?_⟩) (by with_reducible assumption) ?_
      · clear hSw; go_simp
      try simp only [Act.put, List.setIfInBounds_toArray, List.set_cons_zero, List.set_cons_succ]
      refine wpAnyH_take (i := 10) (v := .int .i64 (j : Int)) rfl (by kernel_rfl) (by kernel_rfl) (by kernel_rfl) (fun _ _ _ h => h) (Or.inl ⟨by rfl, fun w' hSw => ?_⟩) (by with_reducible assumption) ?_
      · clear hSw; go_simp
      try simp only [Act.put, List.setIfInBounds_toArray, List.set_cons_zero, List.set_cons_succ]
      refine wpAnyH_take (i := 11) (v := .pointer (some ⟨g, o + j * 3, none⟩)) rfl (by kernel_rfl) (by kernel_rfl) (by kernel_rfl) (fun _ _ _ h => h) (Or.inl ⟨by rfl, fun w' hSw => ?_⟩) (by with_reducible assumption) ?_
      · clear hSw; go_simp
      try simp only [Act.put, List.setIfInBounds_toArray, List.set_cons_zero, List.set_cons_succ]
      refine wpAnyH_take (i := 12) (v := .pointer (some ⟨g, o + j * 3 + 2, none⟩)) rfl (by kernel_rfl) (by kernel_rfl) (by kernel_rfl) (fun _ _ _ h => h) (Or.inl ⟨by rfl, fun w' hSw => ?_⟩) (by with_reducible assumption) ?_
      · clear hSw; go_simp
      try simp only [Act.put, List.setIfInBounds_toArray, List.set_cons_zero, List.set_cons_succ]
      refine wpAnyH_take (i := 13) (v := .slice ba n bc) rfl (by kernel_rfl) (by kernel_rfl) (by kernel_rfl) (fun _ _ _ h => h) (Or.inl ⟨by rfl, fun w' hSw => ?_⟩) (by with_reducible assumption) ?_
      · go_simp
      try simp only [Act.put, List.setIfInBounds_toArray, List.set_cons_zero, List.set_cons_succ]
      refine wpAnyH_take (i := 14) (v := .int .i64 (n : Int)) rfl (by kernel_rfl) (by kernel_rfl) (by kernel_rfl) (fun _ _ _ h => h) (Or.inl ⟨by rfl, fun w' hSw => ?_⟩) (by with_reducible assumption) ?_
      · clear hSw; go_simp
      try simp only [Act.put, List.setIfInBounds_toArray, List.set_cons_zero, List.set_cons_succ]
      refine wpAnyH_ready (rs := [0, 7]) (by kernel_rfl) (by simp) ?_
      refine AllReadyH.cons (i := 0) rfl (fun K hK => ?_) (AllReadyH.cons (i := 7) rfl (fun K hK => ?_) AllReadyH.nil)
      · go_simp
        have hk1 : Kept wx (wx.alloc (.cells #[] 5)) := gtrans (Kept.refl wx) ((Kept.refl _).alloc _ _)
        refine hK.out _ _ (grown_cell hk1 r2x) (fun hHeld1 => ?_)
        have HV1 : Hid (LO u8E (wx.alloc (.cells #[] 5)) xz (.slice (some ⟨wx.heap.size, 0, none⟩) 0 0) []) := lo_empty wx (by have h1 := ((Kept.refl wx)).size; have h2 := HXZ0.out; omega)
        try simp only [Act.put, List.setIfInBounds_toArray, List.set_cons_zero, List.set_cons_succ]
        obtain ⟨w1, hw1⟩ : ∃ w1, wx.alloc (.cells #[] 5) = w1 := ⟨_, rfl⟩
        obtain ⟨g1, hg1⟩ : ∃ g1, wx.heap.size = g1 := ⟨_, rfl⟩
        rw [hw1] at hk1
        rw [hw1] at HV1
        rw [hg1] at HV1
        rw [hw1, hg1]
        have HK1 := hide1 hk1
        have HG1 : Hid (wx.heap.size = g1) := hg1
        have HLT1 : Hid (g1 < w1.heap.size) := (by rw [← hw1, ← hg1, World.size_alloc]; exact Nat.lt_succ_self _ : g1 < w1.heap.size)
        clear hK K hw1 hg1 hk1
        refine wpAnyH_ready (rs := [6, 7]) (by kernel_rfl) (by simp) ?_
        refine AllReadyH.cons (i := 6) rfl (fun K hK => ?_) (AllReadyH.cons (i := 7) rfl (fun K hK => ?_) AllReadyH.nil)
        · refine step_many (E := u8E) rfl _ _ rfl xz (.slice (some ⟨g1, 0, none⟩) 0 0) [] y 0 n n rfl HB1.out.symm (Nat.zero_add n) (by rfl) (HV1.out.keep (drew_kept _)) ba bc (by rfl) (HSX.out.keep (gtrans HK1.out (drew_kept _))) (by show n * 1 ≤ 140737488355328; omega) (by unfold maxLen; omega) (by have h1 := ((gtrans HK1.out (drew_kept _))).size; have h2 := HXZ0.out; omega) ?_
          intro a2 c2 w2 ho2 hg2 hor2
          have hk2 : Kept wx w2 := Kept.lob (gtrans HK1.out (drew_kept _)) (by have h2 := HXZ0.out; omega) (HV1.out.keep (drew_kept _)) hg2
          refine hK.out _ _ (grown_cell hk2 r2x) (fun hHeld2 => ?_)
          have HV2 : Hid (LO u8E w2 xz (.slice a2 n c2) ([] ++ y)) := ho2
          have HK2 := hide1 hk2
          clear hK K ho2 hg2 hor2 hk2
          try simp only [Act.put, List.setIfInBounds_toArray, List.set_cons_zero, List.set_cons_succ]
          refine wpAnyH_ready (rs := [7]) (by kernel_rfl) (by simp) ?_
          refine AllReadyH.cons (i := 7) rfl (fun K hK => ?_) AllReadyH.nil
          go_simp
          have hk3 : Kept wx (w2.alloc (.cells #[.int .u8 165] 5)) := gtrans HK2.out ((Kept.refl _).alloc _ _)
          refine hK.out _ _ (grown_cell hk3 r2x) (fun hHeld3 => ?_)
          have HS3 : Hid (Src u8E (w2.alloc (.cells #[.int .u8 165] 5)) (some ⟨w2.heap.size, 0, none⟩) [165]) := src_one w2 165
          have HV3 : Hid (LO u8E (w2.alloc (.cells #[.int .u8 165] 5)) xz (.slice a2 n c2) ([] ++ y)) := HV2.out.keep ((Kept.refl _).alloc _ _)
          try simp only [Act.put, List.setIfInBounds_toArray, List.set_cons_zero, List.set_cons_succ]
          obtain ⟨w3, hw3⟩ : ∃ w3, w2.alloc (.cells #[.int .u8 165] 5) = w3 := ⟨_, rfl⟩
          obtain ⟨g3, hg3⟩ : ∃ g3, w2.heap.size = g3 := ⟨_, rfl⟩
          rw [hw3] at hk3
          rw [hw3] at HV3
          rw [hw3] at HS3
          rw [hg3] at HS3
          rw [hw3, hg3]
          have HK3 := hide1 hk3
          have HG3 : Hid (w2.heap.size = g3) := hg3
          have HLT3 : Hid (g3 < w3.heap.size) := (by rw [← hw3, ← hg3, World.size_alloc]; exact Nat.lt_succ_self _ : g3 < w3.heap.size)
          clear hK K hw3 hg3 hk3
          refine wpAnyH_ready (rs := [8]) (by kernel_rfl) (by simp) ?_
          refine AllReadyH.cons (i := 8) rfl (fun K hK => ?_) AllReadyH.nil
          refine step_many (E := u8E) rfl _ _ rfl xz (.slice a2 n c2) ([] ++ y) [165] n 1 (n + 1) (by rw [List.nil_append]; exact HB1.out.symm) rfl rfl (by rfl) HV3.out (some ⟨g3, 0, none⟩) 1 (by rfl) HS3.out (by show (n + 1) * 1 ≤ 140737488355328; omega) (by unfold maxLen; omega) (by have h1 := (HK3.out).size; have h2 := HXZ0.out; omega) ?_
          intro ab cb wb hob hgb horb
          have hkb : Kept wx wb := Kept.lob HK3.out (by have h2 := HXZ0.out; omega) HV3.out hgb
          refine hK.out _ _ (grown_cell hkb r2x) (fun hHeldb => ?_)
          have HVb : Hid (LO u8E wb xz (.slice ab (n + 1) cb) ([] ++ y ++ [165])) := hob
          have HKb := hide1 hkb
          obtain ⟨gb, rfl⟩ : ∃ gb, ab = some ⟨gb, 0, none⟩ := HVb.out.some (by simp)
          have hcb : (n : Int) + 1 ≤ (cb : Int) := by have h1 := HVb.out.cap; simp only [List.length_append, List.length_nil, List.length_cons] at h1; have h2 := HB1.out; omega
          have hcn : n ≤ cb := by omega
          clear hK K hob hgb horb hkb
          try simp only [Act.put, List.setIfInBounds_toArray, List.set_cons_zero, List.set_cons_succ]
          refine wpAnyH_ready (rs := [15]) (by kernel_rfl) (by simp) ?_
          refine AllReadyH.cons (i := 15) rfl (fun K hK => ?_) AllReadyH.nil
          go_simp
          refine hK.out _ _ (grown_cell HKb.out r2x) (fun hHeldc => ?_)
          clear hK K
          try simp only [Act.put, List.setIfInBounds_toArray, List.set_cons_zero, List.set_cons_succ]
          refine wpAnyH_ready (rs := [16]) (by kernel_rfl) (by simp) ?_
          refine AllReadyH.cons (i := 16) rfl (fun K hK => ?_) AllReadyH.nil
          go_simp
          refine hK.out _ _ (grown_cell HKb.out r2x) (fun hHeldd => ?_)
          clear hK K
          try simp only [Act.put, List.setIfInBounds_toArray, List.set_cons_zero, List.set_cons_succ]
          refine wpAnyH_ready (rs := [17]) (by kernel_rfl) (by simp) ?_
          refine AllReadyH.cons (i := 17) rfl (fun K hK => ?_) AllReadyH.nil
          have hxbb := (HKb.out.2.2.2.2 xb hxl).trans HXB.out
          have z0 : wb.cell? ⟨xb, 2, none⟩ = some (.slice ba n bc) := by simp [World.cell?, hxbb]
          have z1 : wb.frozen? ⟨xb, 2, none⟩ = false := by simp [World.frozen?, hxbb]
          have hgl : g < wr.heap.size := World.block_lt_of_cell? wr _ r2; have hgx : g ≠ xb := (by omega)
          go_simp
          refine hK.out _ _ ((World.cell?_of_block (w := wb) (a := ⟨g, o + j * 3 + 2, none⟩) (Below.heap_setCell _ _ _ _ hgx)).trans (grown_cell HKb.out r2x)) (fun hHelde => ?_)
          clear hK K
          try simp only [Act.put, List.setIfInBounds_toArray, List.set_cons_zero, List.set_cons_succ]
          refine wpAnyH_done (by kernel_rfl) ?_ _
          obtain ⟨wz, hwz⟩ : ∃ wz, wb.setCell ⟨xb, 2, none⟩ (.slice (some ⟨gb, 0, none⟩) n cb) = wz := ⟨_, rfl⟩
          have HXZ : Hid (wz.heap[xb]? = some (.cells #[.int .i64 at_, .int .i64 del, .slice (some ⟨gb, 0, none⟩) n cb] 24 (0, 0))) := by rw [← hwz]; exact set3at2 hxbb _
          have HKZ : Hid (Kept wr wz) := by rw [← hwz]; exact KeptBut.new (gtrans HKX.out HKb.out) (setCell_but wb xb 2 _) hxw
          have HVZ : Hid (LO u8E wz w.heap.size (.slice (some ⟨gb, 0, none⟩) (n + 1) cb) (y ++ [165])) := by rw [← hwz]; exact (HVb.out.low (by have h1 := HI.out.2.2.1.size; have h2 := HKX.out.size; have h3 := HXZ0.out; omega)).same (fun d hd => Below.heap_setCell _ _ _ _ (show d ≠ xb by have h1 := (HVb.out.lt' d hd).1; omega))
          rw [hwz]
          clear hwz hxbb z0 z1 HVb HKb
          obtain ⟨q0, q1, q2⟩ := cells3 HXZ.out
          have HOZ := hide1 (HI.out.2.1.keep HKZ.out)
          have HSZ : Hid (w.heap.size ≤ wz.heap.size) := Nat.le_trans HI.out.2.2.1.size HKZ.out.size
          go_wp2_with (at_builtin; refine wpl_lo (E := edE) rfl _ _ rfl w.heap.size (.slice ca j cc) cs j HI.out.1 rfl (HOZ.out.keep ((Kept.refl wz).alloc _ _)) wz.heap.size ⟨at_, del, some ⟨gb, 0, none⟩, n, cb⟩ rfl (World.alloc_heap_new wz _) (by show (j + 1) * 40 ≤ 140737488355328; omega) (by unfold maxLen; omega) (Nat.le_trans HSZ.out (alloc_le wz _)) ?_; intro g9 cp9 w9 ho9 hg9 hor9 hl9; have HO9 := hide1 ho9; have HGR := hide1 hg9; clear ho9 hg9 hor9 hl9)
          go_roundw
          case rel => exact ⟨j + 1, cs ++ [⟨at_, del, some ⟨gb, 0, none⟩, n, cb⟩], some ⟨g9, 0, none⟩, cp9, rfl, by simp, by omega, ed_next HI.out.1 HI.out.2.1 HI.out.2.2.1 HI.out.2.2.2 HKZ.out HOZ.out HGR.out HO9.out HVZ.out he hy HB1.out ⟨rfl, rfl, rfl, rfl⟩⟩
          case measure => simp [intOf]; omega
        · go_simp
          have hk8 : Kept wx (w1.alloc (.cells #[.int .u8 165] 5)) := gtrans HK1.out ((Kept.refl _).alloc _ _)
          refine hK.out _ _ (grown_cell hk8 r2x) (fun hHeld8 => ?_)
          have HS8 : Hid (Src u8E (w1.alloc (.cells #[.int .u8 165] 5)) (some ⟨w1.heap.size, 0, none⟩) [165]) := src_one w1 165
          have HV8 : Hid (LO u8E (w1.alloc (.cells #[.int .u8 165] 5)) xz (.slice (some ⟨g1, 0, none⟩) 0 0) []) := HV1.out.keep ((Kept.refl _).alloc _ _)
          try simp only [Act.put, List.setIfInBounds_toArray, List.set_cons_zero, List.set_cons_succ]
          obtain ⟨w8, hw8⟩ : ∃ w8, w1.alloc (.cells #[.int .u8 165] 5) = w8 := ⟨_, rfl⟩
          obtain ⟨g8, hg8⟩ : ∃ g8, w1.heap.size = g8 := ⟨_, rfl⟩
          rw [hw8] at hk8
          rw [hw8] at HV8
          rw [hw8] at HS8
          rw [hg8] at HS8
          rw [hw8, hg8]
          have HK8 := hide1 hk8
          have HG8 : Hid (w1.heap.size = g8) := hg8
          have HLT8 : Hid (g8 < w8.heap.size) := (by rw [← hw8, ← hg8, World.size_alloc]; exact Nat.lt_succ_self _ : g8 < w8.heap.size)
          clear hK K hw8 hg8 hk8
          refine wpAnyH_ready (rs := [6]) (by kernel_rfl) (by simp) ?_
          refine AllReadyH.cons (i := 6) rfl (fun K hK => ?_) AllReadyH.nil
          refine step_many (E := u8E) rfl _ _ rfl xz (.slice (some ⟨g1, 0, none⟩) 0 0) [] y 0 n n rfl HB1.out.symm (Nat.zero_add n) (by rfl) (HV8.out.keep (drew_kept _)) ba bc (by rfl) (HSX.out.keep (gtrans HK8.out (drew_kept _))) (by show n * 1 ≤ 140737488355328; omega) (by unfold maxLen; omega) (by have h1 := ((gtrans HK8.out (drew_kept _))).size; have h2 := HXZ0.out; omega) ?_
          intro a9 c9 w9 ho9 hg9 hor9
          have hk9 : Kept wx w9 := Kept.lob (gtrans HK8.out (drew_kept _)) (by have h2 := HXZ0.out; omega) (HV8.out.keep (drew_kept _)) hg9
          refine hK.out _ _ (grown_cell hk9 r2x) (fun hHeld9 => ?_)
          have HV9 : Hid (LO u8E w9 xz (.slice a9 n c9) ([] ++ y)) := ho9
          have HK9 := hide1 hk9
          have HS9 : Hid (Src u8E w9 (some ⟨g8, 0, none⟩) [165]) := (HS8.out.keep (drew_kept _)).grow hg9 (fun e => by simp only [Value.ownBlock, Option.some.injEq] at e; exact absurd e (by have h1 := HG1.out; have h2 := HG8.out; have h3 := HV1.out.lt' g1 rfl; omega))
          clear hK K ho9 hg9 hor9 hk9
          try simp only [Act.put, List.setIfInBounds_toArray, List.set_cons_zero, List.set_cons_succ]
          refine wpAnyH_ready (rs := [8]) (by kernel_rfl) (by simp) ?_
          refine AllReadyH.cons (i := 8) rfl (fun K hK => ?_) AllReadyH.nil
          refine step_many (E := u8E) rfl _ _ rfl xz (.slice a9 n c9) ([] ++ y) [165] n 1 (n + 1) (by rw [List.nil_append]; exact HB1.out.symm) rfl rfl (by rfl) HV9.out (some ⟨g8, 0, none⟩) 1 (by rfl) HS9.out (by show (n + 1) * 1 ≤ 140737488355328; omega) (by unfold maxLen; omega) (by have h1 := (HK9.out).size; have h2 := HXZ0.out; omega) ?_
          intro ab cb wb hob hgb horb
          have hkb : Kept wx wb := Kept.lob HK9.out (by have h2 := HXZ0.out; omega) HV9.out hgb
          refine hK.out _ _ (grown_cell hkb r2x) (fun hHeldb => ?_)
          have HVb : Hid (LO u8E wb xz (.slice ab (n + 1) cb) ([] ++ y ++ [165])) := hob
          have HKb := hide1 hkb
          obtain ⟨gb, rfl⟩ : ∃ gb, ab = some ⟨gb, 0, none⟩ := HVb.out.some (by simp)
          have hcb : (n : Int) + 1 ≤ (cb : Int) := by have h1 := HVb.out.cap; simp only [List.length_append, List.length_nil, List.length_cons] at h1; have h2 := HB1.out; omega
          have hcn : n ≤ cb := by omega
          clear hK K hob hgb horb hkb
          try simp only [Act.put, List.setIfInBounds_toArray, List.set_cons_zero, List.set_cons_succ]
          refine wpAnyH_ready (rs := [15]) (by kernel_rfl) (by simp) ?_
          refine AllReadyH.cons (i := 15) rfl (fun K hK => ?_) AllReadyH.nil
          go_simp
          refine hK.out _ _ (grown_cell HKb.out r2x) (fun hHeldc => ?_)
          clear hK K
          try simp only [Act.put, List.setIfInBounds_toArray, List.set_cons_zero, List.set_cons_succ]
          refine wpAnyH_ready (rs := [16]) (by kernel_rfl) (by simp) ?_
          refine AllReadyH.cons (i := 16) rfl (fun K hK => ?_) AllReadyH.nil
          go_simp
          refine hK.out _ _ (grown_cell HKb.out r2x) (fun hHeldd => ?_)
          clear hK K
          try simp only [Act.put, List.setIfInBounds_toArray, List.set_cons_zero, List.set_cons_succ]
          refine wpAnyH_ready (rs := [17]) (by kernel_rfl) (by simp) ?_
          refine AllReadyH.cons (i := 17) rfl (fun K hK => ?_) AllReadyH.nil
          have hxbb := (HKb.out.2.2.2.2 xb hxl).trans HXB.out
          have z0 : wb.cell? ⟨xb, 2, none⟩ = some (.slice ba n bc) := by simp [World.cell?, hxbb]
          have z1 : wb.frozen? ⟨xb, 2, none⟩ = false := by simp [World.frozen?, hxbb]
          have hgl : g < wr.heap.size := World.block_lt_of_cell? wr _ r2; have hgx : g ≠ xb := (by omega)
          go_simp
          refine hK.out _ _ ((World.cell?_of_block (w := wb) (a := ⟨g, o + j * 3 + 2, none⟩) (Below.heap_setCell _ _ _ _ hgx)).trans (grown_cell HKb.out r2x)) (fun hHelde => ?_)
          clear hK K
          try simp only [Act.put, List.setIfInBounds_toArray, List.set_cons_zero, List.set_cons_succ]
          refine wpAnyH_done (by kernel_rfl) ?_ _
          obtain ⟨wz, hwz⟩ : ∃ wz, wb.setCell ⟨xb, 2, none⟩ (.slice (some ⟨gb, 0, none⟩) n cb) = wz := ⟨_, rfl⟩
          have HXZ : Hid (wz.heap[xb]? = some (.cells #[.int .i64 at_, .int .i64 del, .slice (some ⟨gb, 0, none⟩) n cb] 24 (0, 0))) := by rw [← hwz]; exact set3at2 hxbb _
          have HKZ : Hid (Kept wr wz) := by rw [← hwz]; exact KeptBut.new (gtrans HKX.out HKb.out) (setCell_but wb xb 2 _) hxw
          have HVZ : Hid (LO u8E wz w.heap.size (.slice (some ⟨gb, 0, none⟩) (n + 1) cb) (y ++ [165])) := by rw [← hwz]; exact (HVb.out.low (by have h1 := HI.out.2.2.1.size; have h2 := HKX.out.size; have h3 := HXZ0.out; omega)).same (fun d hd => Below.heap_setCell _ _ _ _ (show d ≠ xb by have h1 := (HVb.out.lt' d hd).1; omega))
          rw [hwz]
          clear hwz hxbb z0 z1 HVb HKb
          obtain ⟨q0, q1, q2⟩ := cells3 HXZ.out
          have HOZ := hide1 (HI.out.2.1.keep HKZ.out)
          have HSZ : Hid (w.heap.size ≤ wz.heap.size) := Nat.le_trans HI.out.2.2.1.size HKZ.out.size
          go_wp2_with (at_builtin; refine wpl_lo (E := edE) rfl _ _ rfl w.heap.size (.slice ca j cc) cs j HI.out.1 rfl (HOZ.out.keep ((Kept.refl wz).alloc _ _)) wz.heap.size ⟨at_, del, some ⟨gb, 0, none⟩, n, cb⟩ rfl (World.alloc_heap_new wz _) (by show (j + 1) * 40 ≤ 140737488355328; omega) (by unfold maxLen; omega) (Nat.le_trans HSZ.out (alloc_le wz _)) ?_; intro g9 cp9 w9 ho9 hg9 hor9 hl9; have HO9 := hide1 ho9; have HGR := hide1 hg9; clear ho9 hg9 hor9 hl9)
          go_roundw
          case rel => exact ⟨j + 1, cs ++ [⟨at_, del, some ⟨gb, 0, none⟩, n, cb⟩], some ⟨g9, 0, none⟩, cp9, rfl, by simp, by omega, ed_next HI.out.1 HI.out.2.1 HI.out.2.2.1 HI.out.2.2.2 HKZ.out HOZ.out HGR.out HO9.out HVZ.out he hy HB1.out ⟨rfl, rfl, rfl, rfl⟩⟩
          case measure => simp [intOf]; omega
      · go_simp
        have hk14 : Kept wx (wx.alloc (.cells #[.int .u8 165] 5)) := gtrans (Kept.refl wx) ((Kept.refl _).alloc _ _)
        refine hK.out _ _ (grown_cell hk14 r2x) (fun hHeld14 => ?_)
        have HS14 : Hid (Src u8E (wx.alloc (.cells #[.int .u8 165] 5)) (some ⟨wx.heap.size, 0, none⟩) [165]) := src_one wx 165
        try simp only [Act.put, List.setIfInBounds_toArray, List.set_cons_zero, List.set_cons_succ]
        obtain ⟨w14, hw14⟩ : ∃ w14, wx.alloc (.cells #[.int .u8 165] 5) = w14 := ⟨_, rfl⟩
        obtain ⟨g14, hg14⟩ : ∃ g14, wx.heap.size = g14 := ⟨_, rfl⟩
        rw [hw14] at hk14
        rw [hw14] at HS14
        rw [hg14] at HS14
        rw [hw14, hg14]
        have HK14 := hide1 hk14
        have HG14 : Hid (wx.heap.size = g14) := hg14
        have HLT14 : Hid (g14 < w14.heap.size) := (by rw [← hw14, ← hg14, World.size_alloc]; exact Nat.lt_succ_self _ : g14 < w14.heap.size)
        clear hK K hw14 hg14 hk14
        refine wpAnyH_ready (rs := [0]) (by kernel_rfl) (by simp) ?_
        refine AllReadyH.cons (i := 0) rfl (fun K hK => ?_) AllReadyH.nil
        go_simp
        have hk15 : Kept wx (w14.alloc (.cells #[] 5)) := gtrans HK14.out ((Kept.refl _).alloc _ _)
        refine hK.out _ _ (grown_cell hk15 r2x) (fun hHeld15 => ?_)
        have HV15 : Hid (LO u8E (w14.alloc (.cells #[] 5)) xz (.slice (some ⟨w14.heap.size, 0, none⟩) 0 0) []) := lo_empty w14 (by have h1 := (HK14.out).size; have h2 := HXZ0.out; omega)
        have HS15 : Hid (Src u8E (w14.alloc (.cells #[] 5)) (some ⟨g14, 0, none⟩) [165]) := HS14.out.keep ((Kept.refl _).alloc _ _)
        try simp only [Act.put, List.setIfInBounds_toArray, List.set_cons_zero, List.set_cons_succ]
        obtain ⟨w15, hw15⟩ : ∃ w15, w14.alloc (.cells #[] 5) = w15 := ⟨_, rfl⟩
        obtain ⟨g15, hg15⟩ : ∃ g15, w14.heap.size = g15 := ⟨_, rfl⟩
        rw [hw15] at hk15
        rw [hw15] at HV15
        rw [hw15] at HS15
        rw [hg15] at HV15
        rw [hw15, hg15]
        have HK15 := hide1 hk15
        have HG15 : Hid (w14.heap.size = g15) := hg15
        have HLT15 : Hid (g15 < w15.heap.size) := (by rw [← hw15, ← hg15, World.size_alloc]; exact Nat.lt_succ_self _ : g15 < w15.heap.size)
        clear hK K hw15 hg15 hk15
        refine wpAnyH_ready (rs := [6]) (by kernel_rfl) (by simp) ?_
        refine AllReadyH.cons (i := 6) rfl (fun K hK => ?_) AllReadyH.nil
        refine step_many (E := u8E) rfl _ _ rfl xz (.slice (some ⟨g15, 0, none⟩) 0 0) [] y 0 n n rfl HB1.out.symm (Nat.zero_add n) (by rfl) (HV15.out.keep (drew_kept _)) ba bc (by rfl) (HSX.out.keep (gtrans HK15.out (drew_kept _))) (by show n * 1 ≤ 140737488355328; omega) (by unfold maxLen; omega) (by have h1 := ((gtrans HK15.out (drew_kept _))).size; have h2 := HXZ0.out; omega) ?_
        intro a16 c16 w16 ho16 hg16 hor16
        have hk16 : Kept wx w16 := Kept.lob (gtrans HK15.out (drew_kept _)) (by have h2 := HXZ0.out; omega) (HV15.out.keep (drew_kept _)) hg16
        refine hK.out _ _ (grown_cell hk16 r2x) (fun hHeld16 => ?_)
        have HV16 : Hid (LO u8E w16 xz (.slice a16 n c16) ([] ++ y)) := ho16
        have HK16 := hide1 hk16
        have HS16 : Hid (Src u8E w16 (some ⟨g14, 0, none⟩) [165]) := (HS15.out.keep (drew_kept _)).grow hg16 (fun e => by simp only [Value.ownBlock, Option.some.injEq] at e; exact absurd e (by have h1 := HG15.out; have h2 := HG14.out; have h3 := HLT14.out; omega))
        clear hK K ho16 hg16 hor16 hk16
        try simp only [Act.put, List.setIfInBounds_toArray, List.set_cons_zero, List.set_cons_succ]
        refine wpAnyH_ready (rs := [8]) (by kernel_rfl) (by simp) ?_
        refine AllReadyH.cons (i := 8) rfl (fun K hK => ?_) AllReadyH.nil
        refine step_many (E := u8E) rfl _ _ rfl xz (.slice a16 n c16) ([] ++ y) [165] n 1 (n + 1) (by rw [List.nil_append]; exact HB1.out.symm) rfl rfl (by rfl) HV16.out (some ⟨g14, 0, none⟩) 1 (by rfl) HS16.out (by show (n + 1) * 1 ≤ 140737488355328; omega) (by unfold maxLen; omega) (by have h1 := (HK16.out).size; have h2 := HXZ0.out; omega) ?_
        intro ab cb wb hob hgb horb
        have hkb : Kept wx wb := Kept.lob HK16.out (by have h2 := HXZ0.out; omega) HV16.out hgb
        refine hK.out _ _ (grown_cell hkb r2x) (fun hHeldb => ?_)
        have HVb : Hid (LO u8E wb xz (.slice ab (n + 1) cb) ([] ++ y ++ [165])) := hob
        have HKb := hide1 hkb
        obtain ⟨gb, rfl⟩ : ∃ gb, ab = some ⟨gb, 0, none⟩ := HVb.out.some (by simp)
        have hcb : (n : Int) + 1 ≤ (cb : Int) := by have h1 := HVb.out.cap; simp only [List.length_append, List.length_nil, List.length_cons] at h1; have h2 := HB1.out; omega
        have hcn : n ≤ cb := by omega
        clear hK K hob hgb horb hkb
        try simp only [Act.put, List.setIfInBounds_toArray, List.set_cons_zero, List.set_cons_succ]
        refine wpAnyH_ready (rs := [15]) (by kernel_rfl) (by simp) ?_
        refine AllReadyH.cons (i := 15) rfl (fun K hK => ?_) AllReadyH.nil
        go_simp
        refine hK.out _ _ (grown_cell HKb.out r2x) (fun hHeldc => ?_)
        clear hK K
        try simp only [Act.put, List.setIfInBounds_toArray, List.set_cons_zero, List.set_cons_succ]
        refine wpAnyH_ready (rs := [16]) (by kernel_rfl) (by simp) ?_
        refine AllReadyH.cons (i := 16) rfl (fun K hK => ?_) AllReadyH.nil
        go_simp
        refine hK.out _ _ (grown_cell HKb.out r2x) (fun hHeldd => ?_)
        clear hK K
        try simp only [Act.put, List.setIfInBounds_toArray, List.set_cons_zero, List.set_cons_succ]
        refine wpAnyH_ready (rs := [17]) (by kernel_rfl) (by simp) ?_
        refine AllReadyH.cons (i := 17) rfl (fun K hK => ?_) AllReadyH.nil
        have hxbb := (HKb.out.2.2.2.2 xb hxl).trans HXB.out
        have z0 : wb.cell? ⟨xb, 2, none⟩ = some (.slice ba n bc) := by simp [World.cell?, hxbb]
        have z1 : wb.frozen? ⟨xb, 2, none⟩ = false := by simp [World.frozen?, hxbb]
        have hgl : g < wr.heap.size := World.block_lt_of_cell? wr _ r2; have hgx : g ≠ xb := (by omega)
        go_simp
        refine hK.out _ _ ((World.cell?_of_block (w := wb) (a := ⟨g, o + j * 3 + 2, none⟩) (Below.heap_setCell _ _ _ _ hgx)).trans (grown_cell HKb.out r2x)) (fun hHelde => ?_)
        clear hK K
        try simp only [Act.put, List.setIfInBounds_toArray, List.set_cons_zero, List.set_cons_succ]
        refine wpAnyH_done (by kernel_rfl) ?_ _
        obtain ⟨wz, hwz⟩ : ∃ wz, wb.setCell ⟨xb, 2, none⟩ (.slice (some ⟨gb, 0, none⟩) n cb) = wz := ⟨_, rfl⟩
        have HXZ : Hid (wz.heap[xb]? = some (.cells #[.int .i64 at_, .int .i64 del, .slice (some ⟨gb, 0, none⟩) n cb] 24 (0, 0))) := by rw [← hwz]; exact set3at2 hxbb _
        have HKZ : Hid (Kept wr wz) := by rw [← hwz]; exact KeptBut.new (gtrans HKX.out HKb.out) (setCell_but wb xb 2 _) hxw
        have HVZ : Hid (LO u8E wz w.heap.size (.slice (some ⟨gb, 0, none⟩) (n + 1) cb) (y ++ [165])) := by rw [← hwz]; exact (HVb.out.low (by have h1 := HI.out.2.2.1.size; have h2 := HKX.out.size; have h3 := HXZ0.out; omega)).same (fun d hd => Below.heap_setCell _ _ _ _ (show d ≠ xb by have h1 := (HVb.out.lt' d hd).1; omega))
        rw [hwz]
        clear hwz hxbb z0 z1 HVb HKb
        obtain ⟨q0, q1, q2⟩ := cells3 HXZ.out
        have HOZ := hide1 (HI.out.2.1.keep HKZ.out)
        have HSZ : Hid (w.heap.size ≤ wz.heap.size) := Nat.le_trans HI.out.2.2.1.size HKZ.out.size
        go_wp2_with (at_builtin; refine wpl_lo (E := edE) rfl _ _ rfl w.heap.size (.slice ca j cc) cs j HI.out.1 rfl (HOZ.out.keep ((Kept.refl wz).alloc _ _)) wz.heap.size ⟨at_, del, some ⟨gb, 0, none⟩, n, cb⟩ rfl (World.alloc_heap_new wz _) (by show (j + 1) * 40 ≤ 140737488355328; omega) (by unfold maxLen; omega) (Nat.le_trans HSZ.out (alloc_le wz _)) ?_; intro g9 cp9 w9 ho9 hg9 hor9 hl9; have HO9 := hide1 ho9; have HGR := hide1 hg9; clear ho9 hg9 hor9 hl9)
        go_roundw
        case rel => exact ⟨j + 1, cs ++ [⟨at_, del, some ⟨gb, 0, none⟩, n, cb⟩], some ⟨g9, 0, none⟩, cp9, rfl, by simp, by omega, ed_next HI.out.1 HI.out.2.1 HI.out.2.2.1 HI.out.2.2.2 HKZ.out HOZ.out HGR.out HO9.out HVZ.out he hy HB1.out ⟨rfl, rfl, rfl, rfl⟩⟩
        case measure => simp [intOf]; omega
    · obtain rfl : j = m := by omega
      have hjb : ¬ ((j : Int) < (j : Int)) := by omega
      have HI := hide1 hI.out
      clear hI hjm
      go_wp2_with (at_builtin
                   refine wpl_lo (E := edE) rfl _ _ rfl w.heap.size (.slice ca j cc) cs j HI.out.1 rfl (HI.out.2.1.keep ((Kept.refl wr).alloc _ _)) wr.heap.size ⟨77, 0, none, 0, 0⟩ rfl (World.alloc_heap_new wr _) (by show (j + 1) * 40 ≤ 140737488355328; omega) (by unfold maxLen; omega) (Nat.le_trans HI.out.2.2.1.size (alloc_le wr _)) ?_
                   intro g9 cp9 w9 ho9 hg9 hor9 hl9
                   have HO9 := hide1 ho9
                   have HGR := hide1 hg9
                   have hcp : (j : Int) + 1 ≤ (cp9 : Int) := (by have h1 := ho9.cap; rw [List.length_append, HI.out.1] at h1; simp at h1; omega)
                   have hcp2 : j ≤ cp9 := (by omega)
                   clear ho9 hg9 hor9 hl9)
      go_ret
      have hka : Kept wr (wr.alloc (.cells #[.int .i64 77, .int .i64 0, .slice none 0 0] 24)) := (Kept.refl wr).alloc _ _
      refine ⟨g9, cp9, cs, by rw [HM.out]; rfl, ⟨by rw [HI.out.1, HM.out], by rw [HM.out]; exact HO9.out, fun i e y c h1 h2 h3 => ?_⟩, Kept.lo (gtrans HI.out.2.2.1 hka) (HI.out.2.1.keep hka) HGR.out⟩
      have hcp := HI.out.2.2.2 i e y c h1 h2 h3
      refine hcp.same (fun d hd => ?_)
      obtain ⟨cur, hc1⟩ := hcp.2.2.2.2.type hd
      have hdl := (hcp.2.2.2.2.lt' d hd).2
      refine (HGR.out.block d (Nat.lt_of_lt_of_le hdl hka.size) (fun e => ?_)).trans (hka.2.2.2.2 d hdl)
      obtain ⟨cur2, hc2⟩ := HI.out.2.1.type e.symm
      exact block_ne hc1 hc2 (show (5 : TypeId) ≠ 24 by decide) rfl

end Tr
end Ex
end Go.Proofs.Ytnjmbijebckncaa
