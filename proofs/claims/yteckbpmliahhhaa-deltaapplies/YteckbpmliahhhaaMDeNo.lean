import Derived.Test.YteckbpmliahhhaaMDeOn
namespace Go.Proofs.Yteckbpmliahhhaa
open Go.RowKit Go.Maps
attribute [local go_sem] Oper.semAt_some
namespace Ex
namespace Tr

/-- How a pointer to a node reads: as its block's number. -/
def nptR : Value → Option (DataW Unit × List MemPlace)
  | .pointer none => some (.lit (.int .i64 (-1)), [])
  | .pointer (some ⟨b, 0, none⟩) => some (.lit (.int .i64 (b : Int)), [])
  | _ => none
theorem nptR_inv {v : Value} {z : DataW Unit × List MemPlace} (h : nptR v = some z) : (v = .pointer none ∧ z.1 = liI (-1)) ∨ ∃ b : Nat, v = .pointer (some ⟨b, 0, none⟩) ∧ z.1 = liI (b : Int) := by
  unfold nptR at h
  split at h
  · cases h; exact .inl ⟨rfl, rfl⟩
  · cases h; exact .inr ⟨_, rfl, rfl⟩
  · cases h
theorem npt_zero (w : World) : (zeroValue 43).run Try.prog w = .ok (.pointer none) w := by kernel_rfl
def liN (c : Nat) : DataW Unit := liI (c : Int)
/-- A map from numbers to nodes. -/
def NMap (w : World) (b n : Nat) (f : Int → Option Nat) : Prop := MapG nptR w b n (fun x => (f x).map liN)
theorem NMap.lt {w : World} {b n : Nat} {f : Int → Option Nat} (h : NMap w b n f) : b < w.heap.size := MapG.lt h
theorem NMap.same {w w' : World} {b n : Nat} {f : Int → Option Nat} (h : NMap w b n f) (he : w'.heap[b]? = w.heap[b]?) : NMap w' b n f := MapG.same h he
theorem NMap.ext {w : World} {b n : Nat} {f g : Int → Option Nat} (h : NMap w b n f) (he : ∀ x, fits x → f x = g x) : NMap w b n g := MapG.ext h (fun x hx => by rw [he x hx])
/-- v, ok := m[k]. -/
theorem NMap.look {w : World} {b n : Nat} {f : Int → Option Nat} (h : NMap w b n f) {k : Int} (hk : fits k) : (Instr.lookup 62 (.map (some b)) (.int .i64 k) true).run Try.prog w = .ok (.tuple #[.pointer ((f k).map fun c => ⟨c, 0, none⟩), .bool (f k).isSome]) w := by
  obtain ⟨D, h1, h2⟩ := h
  obtain ⟨v, ps, hrun, hv⟩ := h1.look_ok i_key Try.underlying62 (npt_zero w) (zd := liI (-1)) (zp := []) rfl (fits_key hk)
  rw [(h2 k hk).1] at hrun
  rw [(h2 k hk).2] at hv
  dsimp only at hv
  rw [hrun]
  have e : v = .pointer ((f k).map fun c => ⟨c, 0, none⟩) := by
    cases hf : f k with
    | none =>
      rw [hf] at hv
      rcases nptR_inv hv with ⟨rfl, _⟩ | ⟨b', rfl, hz⟩
      · rfl
      · simp only [Option.map_none, Option.getD_none, liI, DataW.lit.injEq, Lit.int.injEq, true_and] at hz
        omega
    | some c =>
      rw [hf] at hv
      rcases nptR_inv hv with ⟨rfl, hz⟩ | ⟨b', rfl, hz⟩
      · simp only [Option.map_some, Option.getD_some, liN, liI, DataW.lit.injEq, Lit.int.injEq, true_and] at hz
        omega
      · simp only [Option.map_some, Option.getD_some, liN, liI, DataW.lit.injEq, Lit.int.injEq, true_and] at hz
        obtain rfl : b' = c := by omega
        rfl
  rw [e]
  simp
theorem stepIn_put {F : Fence} {nn : Nat} {ops : Array Oper} {o : Oper} {a : Act} {K : Act → World → Prop} {Q : Exit → Act → World → Prop} {E : Prop} {w : World} (hgd : o.guard = none) (m x v : Operand) (hop : o.op = Op.mapUpdate 62 m x v) (b n : Nat) (f : Int → Option Nat) (hm : a.eval m = .map (some b)) (h : NMap w b n f) (hn : n < maxLen) (k : Int) (hx : a.eval x = .int .i64 k) (hk : fits k) (c : Nat) (hv : a.eval v = .pointer (some ⟨c, 0, none⟩))
    (hK : ∀ w', NMap w' b (n + 1) (fun y => if y = k then some c else f y) → KeptBut b w w' → K (a.put o.dst undef) w') :
    if Region.wanted o (yielded ops a.tmps) = true then Oper.wpIn F nn Try.prog o a w K Q else E := by
  have hw : Region.wanted o (yielded ops a.tmps) = true := by simp [Region.wanted, hgd]
  rw [if_pos hw]
  obtain ⟨D, h1, h2⟩ := h
  obtain ⟨w', hrun, h3, h4⟩ := h1.store i_key Try.underlying62 hn (fits_key hk) (d := liN c) (ps := []) (val := .pointer (some ⟨c, 0, none⟩)) rfl
  unfold Oper.wpIn
  refine ⟨by simp [Oper.about, hop], ?_⟩
  rw [Oper.semAt_plain F _ _ (by rw [hop]; intro c hc'; cases hc')]
  simp [execOp, hop, hm, hx, hv, hrun, Result.andThen]
  exact hK w' (MapG.ext (MapG.puts hk h1 h2 h3) (fun y _ => by by_cases e : y = k <;> simp [e])) (but_grownT h4.grown)

/-- The nodes of a list, by their numbers. -/
def nodeF (N : Nat → Nd) (l : List (Nat × Nat)) (y : Int) : Option Nat := (l.reverse.find? fun q => ((N q.2).num : Int) == y).map Prod.snd
theorem nodeF_snoc (N : Nat → Nd) (l : List (Nat × Nat)) (q : Nat × Nat) (y : Int) : nodeF N (l ++ [q]) y = if y = ((N q.2).num : Int) then some q.2 else nodeF N l y := by
  unfold nodeF
  rw [List.reverse_append]
  by_cases e : y = ((N q.2).num : Int)
  · subst e
    simp
  · have : (((N q.2).num : Int) == y) = false := by simpa using fun h => e h.symm
    simp [this, e]
theorem nodeF_some {N : Nat → Nd} {l : List (Nat × Nat)} {y : Int} {c : Nat} (h : nodeF N l y = some c) : ((N c).num : Int) = y ∧ ∃ q ∈ l, q.2 = c := by
  unfold nodeF at h
  rw [Option.map_eq_some_iff] at h
  obtain ⟨q, h1, rfl⟩ := h
  exact ⟨by simpa using List.find?_some h1, q, List.mem_reverse.1 (List.mem_of_find?_eq_some h1), rfl⟩
theorem nodeF_none {N : Nat → Nd} {l : List (Nat × Nat)} {y : Int} (h : nodeF N l y = none) : ∀ q ∈ l, ((N q.2).num : Int) ≠ y := fun q hq e => by
  unfold nodeF at h
  rw [Option.map_eq_none_iff, List.find?_eq_none] at h
  exact h q (List.mem_reverse.2 hq) (by simpa using e)
def walkL (N : Nat → Nd) (b : Nat) : List (Nat × Nat) := wl N (N b).size [b] 0
/-- While the nodes are put into the map. -/
def NoI (N : Nat → Nd) (w3 : World) (mb : Nat) (T : Nat → Prop) (pre : List (Nat × Nat)) (W : World) : Prop :=
  (∀ k, T k → w3.heap.size ≤ k) ∧ KeptBut mb w3 W ∧ NMap W mb pre.length (nodeF N pre)
theorem NoI.stable {N : Nat → Nd} {w3 : World} {mb : Nat} (hl : mb < w3.heap.size) : StableW (NoI N w3 mb) := by
  rintro T T' s A A' ⟨g1, g2, g4⟩ hs
  have hn : ∀ k, k < w3.heap.size → ¬ T k := fun k hk h => by have := g1 k h; omega
  refine ⟨fun k hk => ?_, ⟨hs.1.trans g2.1, hs.2.1.trans g2.2.1, hs.2.2.1.trans g2.2.2.1, Nat.le_trans g2.2.2.2.1 hs.2.2.2.1, fun k h1 h2 => (hs.2.2.2.2.1 k (Nat.lt_of_lt_of_le h1 g2.2.2.2.1) (hn k h1)).trans (g2.2.2.2.2 k h1 h2)⟩, g4.same (hs.2.2.2.2.1 mb (Nat.lt_of_lt_of_le hl g2.2.2.2.1) (hn mb hl))⟩
  rcases hs.2.2.2.2.2 k hk with h | h
  · exact g1 k h
  · exact Nat.le_trans g2.2.2.2.1 h.1

set_option linter.unusedSimpArgs false in
set_option maxRecDepth 100000 in
set_option maxHeartbeats 4000000 in
theorem nodes_is (R : Nat → Prop) (N : Nat → Nd) (B b : Nat) (w : World) (hF : Forest R N B w) (hN : NumOk R N) (hb : R b) (hB : B ≤ w.heap.size) :
    Calls Try.prog 19 #[.pointer (some ⟨b, 0, none⟩)] w fun e w' => ∃ mb n, e = .returned (.map (some mb)) ∧ w.heap.size ≤ mb ∧ n ≤ 4194304 ∧ NMap w' mb n (nodeF N (walkL N b)) ∧ Kept w w' := by
  have HF := hide1 hF
  have HB := hide1 hb
  have HN := hide1 hN
  have hmm := @run_makeMap Try.prog
  clear hF hb hN
  refine (callsIn_wide (n := 3)).1 ?_
  refine callsIn_of_wp_marks Try.func19 rfl trivial ?_ rfl
  simp only [Try.ntmps19, List.size_toArray, List.length_cons, List.length_nil, Nat.reduceAdd, Nat.reduceSub, Array.replicate_succ, Array.replicate_zero, List.push_toArray, List.append_toArray, List.nil_append, List.cons_append]
  refine (wpIn_wide (n := 3)).2 ?_
  go_wp2_with (go_at_call 35; refine (walk_is _ _).mono ?_; rintro e w3 ⟨rfl, hw3⟩; have HW3 := hide1 hw3; clear hw3)
  obtain ⟨mb, hmb⟩ : ∃ mb, w.heap.size = mb := ⟨_, rfl⟩
  obtain ⟨pb, hpb⟩ : ∃ pb, mb + 1 = pb := ⟨_, rfl⟩
  obtain ⟨br, hbr⟩ : ∃ br, pb + 1 = br := ⟨_, rfl⟩
  have hw3 := HW3.out
  rw [hmb] at hw3
  rw [hmb, hpb, hbr]
  obtain ⟨wa, ha⟩ : ∃ wa, w.alloc (Obj.map #[] 0) = wa := ⟨_, rfl⟩
  obtain ⟨wb, hb⟩ : ∃ wb, wa.alloc (Obj.cells #[Value.map (some mb)] 62) = wb := ⟨_, rfl⟩
  rw [ha, hb] at hw3
  have hsa : wa.heap.size = pb := by rw [← ha, World.size_alloc, hmb, hpb]
  have hsb : wb.heap.size = br := by rw [← hb, World.size_alloc, hsa, hbr]
  have hs3 : w3.heap.size = br + 1 := by rw [hw3, World.size_alloc, hsb]
  have hka : Kept w wa := by rw [← ha]; exact ⟨rfl, rfl, rfl, by simp, fun k hk => Below.heap_alloc _ _ _ hk⟩
  have hkb : Kept wa wb := by rw [← hb]; exact (Kept.refl wa).alloc _ _
  have hk3 : Kept wb w3 := by rw [hw3]; exact (Kept.refl wb).alloc _ _
  have hma : wa.ownsMap Try.prog 3 nptR mb 0 (.map []) := by rw [← ha, ← hmb]; exact World.ownsMap_made _ _ _ _
  have hpb3 : w3.heap[pb]? = some (.cells #[.map (some mb)] 62 (0, 0)) := (hk3.2.2.2.2 pb (by omega)).trans (by rw [← hb, ← hsa]; exact World.alloc_heap_new wa _)
  have hbr3 : w3.heap[br]? = some (.cells #[.pointer (some ⟨b, 0, none⟩)] 43 (0, 0)) := by rw [hw3, ← hsb]; exact World.alloc_heap_new wb _
  have hkw : Kept w w3 := gtrans hka (gtrans hkb hk3)
  have hm3 : NMap w3 mb 0 (nodeF N []) := MapG.ext (MapG.same (MapG.made hma) ((gtrans hkb hk3).2.2.2.2 mb (by omega))) (fun x _ => rfl)
  have hF3 : Forest R N B w3 := HF.out.kb (hkw.kb hB)
  have hI0 : NoI N w3 mb (fun _ => False) [] w3 := ⟨fun _ h => h.elim, (Kept.refl w3).tbut mb, hm3⟩
  have hseq := walk_seq 2 (by omega) R N B br b w3 hF3 HB.out (by omega) (by omega) (by simp [World.cell?, hbr3])
  have HF3 := hide1 hF3
  have HI0 := hide1 hI0
  have HSEQ := hide1 hseq
  have HPB := hide1 hpb3
  have HKW := hide1 hkw
  have HE : Hid (w.heap.size = mb ∧ mb + 1 = pb ∧ pb + 1 = br ∧ w3.heap.size = br + 1 ∧ B ≤ mb) := ⟨hmb, hpb, hbr, hs3, by omega⟩
  clear hF3 hI0 hseq hpb3 hkw hm3 hbr3 hma hk3 hkb hka hs3 hsb hsa hw3 hb ha hbr hpb hmb HW3 hmm hB
  refine (wpIn_wide (n := 3)).1 ?_
  refine range_W rfl (by omega) (gf := 43) (lb := #[.pointer (some ⟨br, 0, none⟩)]) rfl trivial (enters_of Try.func43 (by kernel_rfl) rfl) HSEQ.out ?kp KX.trans (fun _ => rfl)
    (NoI N w3 mb) (fun _ _ _ => False) (NoI.stable (by have := HE.out; omega)) (fun _ _ _ _ _ h => h.elim) HI0.out
    (fun x => { tmps := #[Value.pointer (some ⟨b, 0, none⟩), undef, Value.map none, Value.pointer (some ⟨pb, 0, none⟩), undef, Value.pointer (some ⟨x.2, 0, none⟩), Value.map (some mb), Value.pointer (some ⟨b, 0, none⟩), Value.func (.func 43) #[] #[.pointer (some ⟨br, 0, none⟩)], Value.int .i64 (x.1 : Int), Value.pointer (some ⟨x.2, 0, none⟩), undef, undef, undef, undef, undef], defers := [] })
    ?assign ?body ?done (fun _ _ _ _ _ _ h => h.elim)
  case kp => exact fun A A' h1 h2 h3 => ⟨h2, fun k hk => h3 k (by have := HE.out; omega)⟩
  case assign =>
    intro l x W K hK
    have HK := hide1 hK
    clear hK
    dsimp only [encW]
    gi_wp2
    exact HK.out
  case body =>
    rintro T pre x W hI hpre hTb hT0 hT1 hsz hloop
    obtain ⟨at9, c9⟩ := x
    have hxm : (at9, c9) ∈ walkL N b := hpre.subset (by simp)
    have hRx : R c9 := wl_mem (fun b hb => (HF3.out b hb).2.2.2.1) _ _ _ (fun p hp => by rw [List.mem_singleton.1 hp]; exact HB.out) _ hxm
    have hE := HE.out
    obtain ⟨g1, g2, g4⟩ := hI
    have hNW : NodeAt B W c9 (N c9) := (HF3.out c9 hRx).1.kb ⟨g2.2.2.2.1, fun k hk => g2.2.2.2.2 k (by omega) (by omega)⟩
    have hpbW := (g2.2.2.2.2 pb (by omega) (by omega)).trans HPB.out
    obtain ⟨c3, _⟩ := one_cell hpbW
    obtain ⟨pl, hpl⟩ : ∃ pl, pre.length = pl := ⟨_, rfl⟩
    obtain ⟨nm, hnm⟩ : ∃ nm : Int, ((N c9).num : Int) = nm := ⟨_, rfl⟩
    have hfit : fits nm := by have := HN.out c9 hRx; unfold fits; omega
    have hlen : pl < 4194304 := by
      have h1 := hpre.length_le
      have h2 := wl_len N (N b).size [b] 0
      have h3 := (HF3.out b HB.out).2.1.2.1
      simp only [List.length_append, List.length_cons, List.length_nil] at h1
      omega
    have hnum := number_is (hNW.keep (drew_kept W))
    rw [hnm] at hnum
    have HNUM := hide1 hnum
    rw [hpl] at g4
    have HM : Hid (NMap W.drew mb pl (nodeF N pre)) := g4
    have HFIN : Hid (∀ w9, NMap w9 mb (pl + 1) (fun y => if y = nm then some c9 else nodeF N pre y) → KeptBut mb W.drew w9 → postW T (KX fun k => k < B ∨ k = br) (NoI N w3 mb) (fun _ _ _ => False) (pre ++ [(at9, c9)]) W .normal { tmps := #[], defers := [] } w9) := fun w9 hm9 hk9 => by
      have hk : KeptBut mb W w9 := ((drew_kept W).tbut mb).trans hk9
      have hlt := g2.2.2.2.1
      refine ⟨hk.2.2.2.1, fun k hk' => ?_, ⟨hk.2.2.2.1, fun k hk' => ?_⟩, g1, g2.trans hk, ?_⟩
      · have := g1 k hk'
        exact hk.2.2.2.2 k (hTb k hk').2 (by omega)
      · refine hk.2.2.2.2 k ?_ ?_ <;> rcases hk' with hk' | rfl <;> omega
      · rw [List.length_append, hpl]
        exact hm9.ext (fun y _ => by rw [nodeF_snoc, hnm])
    clear g1 g2 g4 hpre hTb hT0 hT1 hsz hloop hxm hRx hNW hpbW hnum hnm hpl hE
    gi_wp2_with fail
    refine wpIn_region_any (by kernel_rfl) ?_
    change wpAnyIn _ _ _ _ _ _ _ _ _ (World.drew _)
    refine wpAnyIn_ready (rs := [0, 1, 3]) (by kernel_rfl) (by simp) ?_
    refine AllReadyIn.cons (i := 0) rfl (fun K hK => ?_) (AllReadyIn.cons (i := 1) rfl (fun K hK => ?_) (AllReadyIn.cons (i := 3) rfl (fun K hK => ?_) AllReadyIn.nil))
    · go_simp
      refine hK _ _ ?_
      clear hK K
      try simp only [Act.put, List.setIfInBounds_toArray, List.set_cons_zero, List.set_cons_succ]
      refine wpAnyIn_ready (rs := [1, 3]) (by kernel_rfl) (by simp) ?_
      refine AllReadyIn.cons (i := 1) rfl (fun K hK => ?_) (AllReadyIn.cons (i := 3) rfl (fun K hK => ?_) AllReadyIn.nil)
      · go_simp
        refine hK _ _ ?_
        clear hK K
        try simp only [Act.put, List.setIfInBounds_toArray, List.set_cons_zero, List.set_cons_succ]
        refine wpAnyIn_ready (rs := [2, 3]) (by kernel_rfl) (by simp) ?_
        refine AllReadyIn.cons (i := 2) rfl (fun K hK => ?_) (AllReadyIn.cons (i := 3) rfl (fun K hK => ?_) AllReadyIn.nil)
        · go_simp
          refine ⟨trivial, ?_⟩
          refine (CallsIn.inRound _ (callsIn_wide.2 HNUM.out)).mono ?_
          rintro e w6 ⟨rfl, hw6⟩
          have hw6 := hw6.symm
          subst hw6
          refine hK _ _ ?_
          clear hK K
          try simp only [Act.put, List.setIfInBounds_toArray, List.set_cons_zero, List.set_cons_succ]
          refine wpAnyIn_ready (rs := [3]) (by kernel_rfl) (by simp) ?_
          refine AllReadyIn.cons (i := 3) rfl (fun K hK => ?_) AllReadyIn.nil
          go_simp
          refine hK _ _ ?_
          clear hK K
          try simp only [Act.put, List.setIfInBounds_toArray, List.set_cons_zero, List.set_cons_succ]
          refine wpAnyIn_ready (rs := [4]) (by kernel_rfl) (by simp) ?_
          refine AllReadyIn.cons (i := 4) rfl (fun K hK => ?_) AllReadyIn.nil
          refine stepIn_put rfl _ _ _ rfl mb pl (nodeF N pre) rfl HM.out (by unfold maxLen; omega) nm rfl hfit c9 rfl ?_
          intro w9 hm9 hk9
          refine hK _ _ ?_
          clear hK K
          try simp only [Act.put, List.setIfInBounds_toArray, List.set_cons_zero, List.set_cons_succ]
          refine wpAnyIn_done (by kernel_rfl) ?_ _
          exact HFIN.out w9 hm9 hk9
        · go_simp
          refine hK _ _ ?_
          clear hK K
          try simp only [Act.put, List.setIfInBounds_toArray, List.set_cons_zero, List.set_cons_succ]
          refine wpAnyIn_ready (rs := [2]) (by kernel_rfl) (by simp) ?_
          refine AllReadyIn.cons (i := 2) rfl (fun K hK => ?_) AllReadyIn.nil
          go_simp
          refine ⟨trivial, ?_⟩
          refine (CallsIn.inRound _ (callsIn_wide.2 HNUM.out)).mono ?_
          rintro e w6 ⟨rfl, hw6⟩
          have hw6 := hw6.symm
          subst hw6
          refine hK _ _ ?_
          clear hK K
          try simp only [Act.put, List.setIfInBounds_toArray, List.set_cons_zero, List.set_cons_succ]
          refine wpAnyIn_ready (rs := [4]) (by kernel_rfl) (by simp) ?_
          refine AllReadyIn.cons (i := 4) rfl (fun K hK => ?_) AllReadyIn.nil
          refine stepIn_put rfl _ _ _ rfl mb pl (nodeF N pre) rfl HM.out (by unfold maxLen; omega) nm rfl hfit c9 rfl ?_
          intro w9 hm9 hk9
          refine hK _ _ ?_
          clear hK K
          try simp only [Act.put, List.setIfInBounds_toArray, List.set_cons_zero, List.set_cons_succ]
          refine wpAnyIn_done (by kernel_rfl) ?_ _
          exact HFIN.out w9 hm9 hk9
      · go_simp
        refine hK _ _ ?_
        clear hK K
        try simp only [Act.put, List.setIfInBounds_toArray, List.set_cons_zero, List.set_cons_succ]
        refine wpAnyIn_ready (rs := [1]) (by kernel_rfl) (by simp) ?_
        refine AllReadyIn.cons (i := 1) rfl (fun K hK => ?_) AllReadyIn.nil
        go_simp
        refine hK _ _ ?_
        clear hK K
        try simp only [Act.put, List.setIfInBounds_toArray, List.set_cons_zero, List.set_cons_succ]
        refine wpAnyIn_ready (rs := [2]) (by kernel_rfl) (by simp) ?_
        refine AllReadyIn.cons (i := 2) rfl (fun K hK => ?_) AllReadyIn.nil
        go_simp
        refine ⟨trivial, ?_⟩
        refine (CallsIn.inRound _ (callsIn_wide.2 HNUM.out)).mono ?_
        rintro e w6 ⟨rfl, hw6⟩
        have hw6 := hw6.symm
        subst hw6
        refine hK _ _ ?_
        clear hK K
        try simp only [Act.put, List.setIfInBounds_toArray, List.set_cons_zero, List.set_cons_succ]
        refine wpAnyIn_ready (rs := [4]) (by kernel_rfl) (by simp) ?_
        refine AllReadyIn.cons (i := 4) rfl (fun K hK => ?_) AllReadyIn.nil
        refine stepIn_put rfl _ _ _ rfl mb pl (nodeF N pre) rfl HM.out (by unfold maxLen; omega) nm rfl hfit c9 rfl ?_
        intro w9 hm9 hk9
        refine hK _ _ ?_
        clear hK K
        try simp only [Act.put, List.setIfInBounds_toArray, List.set_cons_zero, List.set_cons_succ]
        refine wpAnyIn_done (by kernel_rfl) ?_ _
        exact HFIN.out w9 hm9 hk9
    · go_simp
      refine hK _ _ ?_
      clear hK K
      try simp only [Act.put, List.setIfInBounds_toArray, List.set_cons_zero, List.set_cons_succ]
      refine wpAnyIn_ready (rs := [0, 2, 3]) (by kernel_rfl) (by simp) ?_
      refine AllReadyIn.cons (i := 0) rfl (fun K hK => ?_) (AllReadyIn.cons (i := 2) rfl (fun K hK => ?_) (AllReadyIn.cons (i := 3) rfl (fun K hK => ?_) AllReadyIn.nil))
      · go_simp
        refine hK _ _ ?_
        clear hK K
        try simp only [Act.put, List.setIfInBounds_toArray, List.set_cons_zero, List.set_cons_succ]
        refine wpAnyIn_ready (rs := [2, 3]) (by kernel_rfl) (by simp) ?_
        refine AllReadyIn.cons (i := 2) rfl (fun K hK => ?_) (AllReadyIn.cons (i := 3) rfl (fun K hK => ?_) AllReadyIn.nil)
        · go_simp
          refine ⟨trivial, ?_⟩
          refine (CallsIn.inRound _ (callsIn_wide.2 HNUM.out)).mono ?_
          rintro e w6 ⟨rfl, hw6⟩
          have hw6 := hw6.symm
          subst hw6
          refine hK _ _ ?_
          clear hK K
          try simp only [Act.put, List.setIfInBounds_toArray, List.set_cons_zero, List.set_cons_succ]
          refine wpAnyIn_ready (rs := [3]) (by kernel_rfl) (by simp) ?_
          refine AllReadyIn.cons (i := 3) rfl (fun K hK => ?_) AllReadyIn.nil
          go_simp
          refine hK _ _ ?_
          clear hK K
          try simp only [Act.put, List.setIfInBounds_toArray, List.set_cons_zero, List.set_cons_succ]
          refine wpAnyIn_ready (rs := [4]) (by kernel_rfl) (by simp) ?_
          refine AllReadyIn.cons (i := 4) rfl (fun K hK => ?_) AllReadyIn.nil
          refine stepIn_put rfl _ _ _ rfl mb pl (nodeF N pre) rfl HM.out (by unfold maxLen; omega) nm rfl hfit c9 rfl ?_
          intro w9 hm9 hk9
          refine hK _ _ ?_
          clear hK K
          try simp only [Act.put, List.setIfInBounds_toArray, List.set_cons_zero, List.set_cons_succ]
          refine wpAnyIn_done (by kernel_rfl) ?_ _
          exact HFIN.out w9 hm9 hk9
        · go_simp
          refine hK _ _ ?_
          clear hK K
          try simp only [Act.put, List.setIfInBounds_toArray, List.set_cons_zero, List.set_cons_succ]
          refine wpAnyIn_ready (rs := [2]) (by kernel_rfl) (by simp) ?_
          refine AllReadyIn.cons (i := 2) rfl (fun K hK => ?_) AllReadyIn.nil
          go_simp
          refine ⟨trivial, ?_⟩
          refine (CallsIn.inRound _ (callsIn_wide.2 HNUM.out)).mono ?_
          rintro e w6 ⟨rfl, hw6⟩
          have hw6 := hw6.symm
          subst hw6
          refine hK _ _ ?_
          clear hK K
          try simp only [Act.put, List.setIfInBounds_toArray, List.set_cons_zero, List.set_cons_succ]
          refine wpAnyIn_ready (rs := [4]) (by kernel_rfl) (by simp) ?_
          refine AllReadyIn.cons (i := 4) rfl (fun K hK => ?_) AllReadyIn.nil
          refine stepIn_put rfl _ _ _ rfl mb pl (nodeF N pre) rfl HM.out (by unfold maxLen; omega) nm rfl hfit c9 rfl ?_
          intro w9 hm9 hk9
          refine hK _ _ ?_
          clear hK K
          try simp only [Act.put, List.setIfInBounds_toArray, List.set_cons_zero, List.set_cons_succ]
          refine wpAnyIn_done (by kernel_rfl) ?_ _
          exact HFIN.out w9 hm9 hk9
      · go_simp
        refine ⟨trivial, ?_⟩
        refine (CallsIn.inRound _ (callsIn_wide.2 HNUM.out)).mono ?_
        rintro e w6 ⟨rfl, hw6⟩
        have hw6 := hw6.symm
        subst hw6
        refine hK _ _ ?_
        clear hK K
        try simp only [Act.put, List.setIfInBounds_toArray, List.set_cons_zero, List.set_cons_succ]
        refine wpAnyIn_ready (rs := [0, 3]) (by kernel_rfl) (by simp) ?_
        refine AllReadyIn.cons (i := 0) rfl (fun K hK => ?_) (AllReadyIn.cons (i := 3) rfl (fun K hK => ?_) AllReadyIn.nil)
        · go_simp
          refine hK _ _ ?_
          clear hK K
          try simp only [Act.put, List.setIfInBounds_toArray, List.set_cons_zero, List.set_cons_succ]
          refine wpAnyIn_ready (rs := [3]) (by kernel_rfl) (by simp) ?_
          refine AllReadyIn.cons (i := 3) rfl (fun K hK => ?_) AllReadyIn.nil
          go_simp
          refine hK _ _ ?_
          clear hK K
          try simp only [Act.put, List.setIfInBounds_toArray, List.set_cons_zero, List.set_cons_succ]
          refine wpAnyIn_ready (rs := [4]) (by kernel_rfl) (by simp) ?_
          refine AllReadyIn.cons (i := 4) rfl (fun K hK => ?_) AllReadyIn.nil
          refine stepIn_put rfl _ _ _ rfl mb pl (nodeF N pre) rfl HM.out (by unfold maxLen; omega) nm rfl hfit c9 rfl ?_
          intro w9 hm9 hk9
          refine hK _ _ ?_
          clear hK K
          try simp only [Act.put, List.setIfInBounds_toArray, List.set_cons_zero, List.set_cons_succ]
          refine wpAnyIn_done (by kernel_rfl) ?_ _
          exact HFIN.out w9 hm9 hk9
        · go_simp
          refine hK _ _ ?_
          clear hK K
          try simp only [Act.put, List.setIfInBounds_toArray, List.set_cons_zero, List.set_cons_succ]
          refine wpAnyIn_ready (rs := [0]) (by kernel_rfl) (by simp) ?_
          refine AllReadyIn.cons (i := 0) rfl (fun K hK => ?_) AllReadyIn.nil
          go_simp
          refine hK _ _ ?_
          clear hK K
          try simp only [Act.put, List.setIfInBounds_toArray, List.set_cons_zero, List.set_cons_succ]
          refine wpAnyIn_ready (rs := [4]) (by kernel_rfl) (by simp) ?_
          refine AllReadyIn.cons (i := 4) rfl (fun K hK => ?_) AllReadyIn.nil
          refine stepIn_put rfl _ _ _ rfl mb pl (nodeF N pre) rfl HM.out (by unfold maxLen; omega) nm rfl hfit c9 rfl ?_
          intro w9 hm9 hk9
          refine hK _ _ ?_
          clear hK K
          try simp only [Act.put, List.setIfInBounds_toArray, List.set_cons_zero, List.set_cons_succ]
          refine wpAnyIn_done (by kernel_rfl) ?_ _
          exact HFIN.out w9 hm9 hk9
      · go_simp
        refine hK _ _ ?_
        clear hK K
        try simp only [Act.put, List.setIfInBounds_toArray, List.set_cons_zero, List.set_cons_succ]
        refine wpAnyIn_ready (rs := [0, 2]) (by kernel_rfl) (by simp) ?_
        refine AllReadyIn.cons (i := 0) rfl (fun K hK => ?_) (AllReadyIn.cons (i := 2) rfl (fun K hK => ?_) AllReadyIn.nil)
        · go_simp
          refine hK _ _ ?_
          clear hK K
          try simp only [Act.put, List.setIfInBounds_toArray, List.set_cons_zero, List.set_cons_succ]
          refine wpAnyIn_ready (rs := [2]) (by kernel_rfl) (by simp) ?_
          refine AllReadyIn.cons (i := 2) rfl (fun K hK => ?_) AllReadyIn.nil
          go_simp
          refine ⟨trivial, ?_⟩
          refine (CallsIn.inRound _ (callsIn_wide.2 HNUM.out)).mono ?_
          rintro e w6 ⟨rfl, hw6⟩
          have hw6 := hw6.symm
          subst hw6
          refine hK _ _ ?_
          clear hK K
          try simp only [Act.put, List.setIfInBounds_toArray, List.set_cons_zero, List.set_cons_succ]
          refine wpAnyIn_ready (rs := [4]) (by kernel_rfl) (by simp) ?_
          refine AllReadyIn.cons (i := 4) rfl (fun K hK => ?_) AllReadyIn.nil
          refine stepIn_put rfl _ _ _ rfl mb pl (nodeF N pre) rfl HM.out (by unfold maxLen; omega) nm rfl hfit c9 rfl ?_
          intro w9 hm9 hk9
          refine hK _ _ ?_
          clear hK K
          try simp only [Act.put, List.setIfInBounds_toArray, List.set_cons_zero, List.set_cons_succ]
          refine wpAnyIn_done (by kernel_rfl) ?_ _
          exact HFIN.out w9 hm9 hk9
        · go_simp
          refine ⟨trivial, ?_⟩
          refine (CallsIn.inRound _ (callsIn_wide.2 HNUM.out)).mono ?_
          rintro e w6 ⟨rfl, hw6⟩
          have hw6 := hw6.symm
          subst hw6
          refine hK _ _ ?_
          clear hK K
          try simp only [Act.put, List.setIfInBounds_toArray, List.set_cons_zero, List.set_cons_succ]
          refine wpAnyIn_ready (rs := [0]) (by kernel_rfl) (by simp) ?_
          refine AllReadyIn.cons (i := 0) rfl (fun K hK => ?_) AllReadyIn.nil
          go_simp
          refine hK _ _ ?_
          clear hK K
          try simp only [Act.put, List.setIfInBounds_toArray, List.set_cons_zero, List.set_cons_succ]
          refine wpAnyIn_ready (rs := [4]) (by kernel_rfl) (by simp) ?_
          refine AllReadyIn.cons (i := 4) rfl (fun K hK => ?_) AllReadyIn.nil
          refine stepIn_put rfl _ _ _ rfl mb pl (nodeF N pre) rfl HM.out (by unfold maxLen; omega) nm rfl hfit c9 rfl ?_
          intro w9 hm9 hk9
          refine hK _ _ ?_
          clear hK K
          try simp only [Act.put, List.setIfInBounds_toArray, List.set_cons_zero, List.set_cons_succ]
          refine wpAnyIn_done (by kernel_rfl) ?_ _
          exact HFIN.out w9 hm9 hk9
    · go_simp
      refine hK _ _ ?_
      clear hK K
      try simp only [Act.put, List.setIfInBounds_toArray, List.set_cons_zero, List.set_cons_succ]
      refine wpAnyIn_ready (rs := [0, 1]) (by kernel_rfl) (by simp) ?_
      refine AllReadyIn.cons (i := 0) rfl (fun K hK => ?_) (AllReadyIn.cons (i := 1) rfl (fun K hK => ?_) AllReadyIn.nil)
      · go_simp
        refine hK _ _ ?_
        clear hK K
        try simp only [Act.put, List.setIfInBounds_toArray, List.set_cons_zero, List.set_cons_succ]
        refine wpAnyIn_ready (rs := [1]) (by kernel_rfl) (by simp) ?_
        refine AllReadyIn.cons (i := 1) rfl (fun K hK => ?_) AllReadyIn.nil
        go_simp
        refine hK _ _ ?_
        clear hK K
        try simp only [Act.put, List.setIfInBounds_toArray, List.set_cons_zero, List.set_cons_succ]
        refine wpAnyIn_ready (rs := [2]) (by kernel_rfl) (by simp) ?_
        refine AllReadyIn.cons (i := 2) rfl (fun K hK => ?_) AllReadyIn.nil
        go_simp
        refine ⟨trivial, ?_⟩
        refine (CallsIn.inRound _ (callsIn_wide.2 HNUM.out)).mono ?_
        rintro e w6 ⟨rfl, hw6⟩
        have hw6 := hw6.symm
        subst hw6
        refine hK _ _ ?_
        clear hK K
        try simp only [Act.put, List.setIfInBounds_toArray, List.set_cons_zero, List.set_cons_succ]
        refine wpAnyIn_ready (rs := [4]) (by kernel_rfl) (by simp) ?_
        refine AllReadyIn.cons (i := 4) rfl (fun K hK => ?_) AllReadyIn.nil
        refine stepIn_put rfl _ _ _ rfl mb pl (nodeF N pre) rfl HM.out (by unfold maxLen; omega) nm rfl hfit c9 rfl ?_
        intro w9 hm9 hk9
        refine hK _ _ ?_
        clear hK K
        try simp only [Act.put, List.setIfInBounds_toArray, List.set_cons_zero, List.set_cons_succ]
        refine wpAnyIn_done (by kernel_rfl) ?_ _
        exact HFIN.out w9 hm9 hk9
      · go_simp
        refine hK _ _ ?_
        clear hK K
        try simp only [Act.put, List.setIfInBounds_toArray, List.set_cons_zero, List.set_cons_succ]
        refine wpAnyIn_ready (rs := [0, 2]) (by kernel_rfl) (by simp) ?_
        refine AllReadyIn.cons (i := 0) rfl (fun K hK => ?_) (AllReadyIn.cons (i := 2) rfl (fun K hK => ?_) AllReadyIn.nil)
        · go_simp
          refine hK _ _ ?_
          clear hK K
          try simp only [Act.put, List.setIfInBounds_toArray, List.set_cons_zero, List.set_cons_succ]
          refine wpAnyIn_ready (rs := [2]) (by kernel_rfl) (by simp) ?_
          refine AllReadyIn.cons (i := 2) rfl (fun K hK => ?_) AllReadyIn.nil
          go_simp
          refine ⟨trivial, ?_⟩
          refine (CallsIn.inRound _ (callsIn_wide.2 HNUM.out)).mono ?_
          rintro e w6 ⟨rfl, hw6⟩
          have hw6 := hw6.symm
          subst hw6
          refine hK _ _ ?_
          clear hK K
          try simp only [Act.put, List.setIfInBounds_toArray, List.set_cons_zero, List.set_cons_succ]
          refine wpAnyIn_ready (rs := [4]) (by kernel_rfl) (by simp) ?_
          refine AllReadyIn.cons (i := 4) rfl (fun K hK => ?_) AllReadyIn.nil
          refine stepIn_put rfl _ _ _ rfl mb pl (nodeF N pre) rfl HM.out (by unfold maxLen; omega) nm rfl hfit c9 rfl ?_
          intro w9 hm9 hk9
          refine hK _ _ ?_
          clear hK K
          try simp only [Act.put, List.setIfInBounds_toArray, List.set_cons_zero, List.set_cons_succ]
          refine wpAnyIn_done (by kernel_rfl) ?_ _
          exact HFIN.out w9 hm9 hk9
        · go_simp
          refine ⟨trivial, ?_⟩
          refine (CallsIn.inRound _ (callsIn_wide.2 HNUM.out)).mono ?_
          rintro e w6 ⟨rfl, hw6⟩
          have hw6 := hw6.symm
          subst hw6
          refine hK _ _ ?_
          clear hK K
          try simp only [Act.put, List.setIfInBounds_toArray, List.set_cons_zero, List.set_cons_succ]
          refine wpAnyIn_ready (rs := [0]) (by kernel_rfl) (by simp) ?_
          refine AllReadyIn.cons (i := 0) rfl (fun K hK => ?_) AllReadyIn.nil
          go_simp
          refine hK _ _ ?_
          clear hK K
          try simp only [Act.put, List.setIfInBounds_toArray, List.set_cons_zero, List.set_cons_succ]
          refine wpAnyIn_ready (rs := [4]) (by kernel_rfl) (by simp) ?_
          refine AllReadyIn.cons (i := 4) rfl (fun K hK => ?_) AllReadyIn.nil
          refine stepIn_put rfl _ _ _ rfl mb pl (nodeF N pre) rfl HM.out (by unfold maxLen; omega) nm rfl hfit c9 rfl ?_
          intro w9 hm9 hk9
          refine hK _ _ ?_
          clear hK K
          try simp only [Act.put, List.setIfInBounds_toArray, List.set_cons_zero, List.set_cons_succ]
          refine wpAnyIn_done (by kernel_rfl) ?_ _
          exact HFIN.out w9 hm9 hk9
  case done =>
    rintro D T W hD hI hdef hTb hT0 hT1
    have hE := HE.out
    obtain ⟨g1, g2, g4⟩ := hI
    have hkW : Kept w W := ⟨g2.1.trans HKW.out.1, g2.2.1.trans HKW.out.2.1, g2.2.2.1.trans HKW.out.2.2.1, Nat.le_trans HKW.out.2.2.2.1 g2.2.2.2.1, fun k hk => (g2.2.2.2.2 k (by omega) (by omega)).trans (HKW.out.2.2.2.2 k hk)⟩
    have hpbW := (g2.2.2.2.2 pb (by omega) (by omega)).trans HPB.out
    obtain ⟨c3, _⟩ := one_cell hpbW
    have hn4 : (wl N (N b).size [b] 0).length ≤ 4194304 := by
      have h2 := wl_len N (N b).size [b] 0
      have h3 := (HF3.out b HB.out).2.1.2.1
      omega
    have HM : Hid (NMap W mb (wl N (N b).size [b] 0).length (nodeF N (walkL N b))) := g4
    have HKW2 := hide1 hkW
    have HDEF := hide1 hdef
    have HDL : Hid (br + 1 ≤ D) := by show br + 1 ≤ D; omega
    clear g1 g2 g4 hkW hpbW hdef hTb hT0 hT1 hD hE
    go_wp2_with fail
    refine ⟨by simp, .inl ⟨_, _, rfl, run_takeDeferred HDEF.out, ?_⟩⟩
    have hE := HE.out
    have hd := HDL.out
    exact ⟨_, results_tmp rfl _ _ _, mb, _, rfl, by omega, hn4, HM.out.same (World.putObj_heap_other (by omega)), HKW2.out.put (by omega) _⟩

end Tr
end Ex
end Go.Proofs.Yteckbpmliahhhaa
