import Derived.Test.YtfajoknacfjedaaGreatDoorMExNt2
import Derived.Deep.RegionHeld3
import Derived.Laws.MakeOwn
import Derived.Laws.CopyOwn
namespace Go.Proofs.YtfajoknacfjedaaGreatDoor
open Go.RowKit
attribute [local go_sem] Oper.semAt_some
namespace Ex

/-- What places lead to by forks alone; N: how many steps at most. -/
def reachG (fs : List (Nat × Nat)) : Nat → List Nat → List Bool → Nat → Nat
  | 0, _, _, A => A
  | _ + 1, [], _, A => A
  | N + 1, p :: st, seen, A =>
    if p < 4097 then reachG fs N st seen (A ||| 2 ^ p)
    else if seen.getD (p - 4097) true then reachG fs N st seen A
    else reachG fs N ((fs.getD (p - 4097) (0, 0)).2 :: (fs.getD (p - 4097) (0, 0)).1 :: st) (seen.set (p - 4097) true) A
def reachM (fs : List (Nat × Nat)) (p : Nat) : Nat := reachG fs (2 * fs.length + 1) [p] (List.replicate fs.length false) 0
/-- How many steps are left. -/
def reachK (st : List Nat) (seen : List Bool) : Nat := 2 * seen.count false + st.length
/-- Places that there are. -/
def PlaceOk (n p : Nat) : Prop := p < 4097 + n
def ForksOk (fs : List (Nat × Nat)) : Prop := fs.length ≤ 300000 ∧ ∀ f ∈ fs, PlaceOk fs.length f.1 ∧ PlaceOk fs.length f.2
theorem reachG_top (fs : List (Nat × Nat)) : ∀ (N : Nat) (st : List Nat) (seen : List Bool) (A : Nat), A < top → reachG fs N st seen A < top
  | 0, _, _, _, h => h
  | _ + 1, [], _, _, h => h
  | N + 1, p :: st, seen, A, h => by
    rw [reachG]
    split
    · exact reachG_top fs N _ _ _ (top_or h (top_pow (by omega)))
    · split
      · exact reachG_top fs N _ _ _ h
      · exact reachG_top fs N _ _ _ h
theorem reachM_top (fs : List (Nat × Nat)) (p : Nat) : reachM fs p < top := reachG_top fs _ _ _ _ top_zero
theorem reachG_nil (fs : List (Nat × Nat)) (N : Nat) (seen : List Bool) (A : Nat) : reachG fs N [] seen A = A := by cases N <;> rfl

/-- The net's forks, as they are read. -/
def ForksAt (w : World) (nb : Nat) (fs : List (Nat × Nat)) : Prop :=
  ∃ a cap, w.cell? ⟨nb, 2, none⟩ = some (.slice a fs.length cap) ∧ fs.length ≤ cap ∧ (fs = [] ∨ ∃ g, a = some ⟨g, 0, none⟩ ∧ ∀ (i : Nat) (f : Nat × Nat), fs[i]? = some f → w.cell? ⟨g, i * 2, none⟩ = some (.int .i64 (f.1 : Int)) ∧ w.cell? ⟨g, i * 2 + 1, none⟩ = some (.int .i64 (f.2 : Int)))
theorem ForksAt.keep {w w' : World} {nb : Nat} {fs : List (Nat × Nat)} (h : ForksAt w nb fs) (hk : Kept w w') : ForksAt w' nb fs := by
  obtain ⟨a, cap, h1, h2, h3⟩ := h
  refine ⟨a, cap, grown_cell hk h1, h2, ?_⟩
  rcases h3 with h3 | ⟨g, h4, h5⟩
  · exact .inl h3
  · exact .inr ⟨g, h4, fun i f hi => ⟨grown_cell hk (h5 i f hi).1, grown_cell hk (h5 i f hi).2⟩⟩

/-- A list of numbers of the call's own. -/
def numV (l : List Nat) : List Value := l.map fun (n : Nat) => Value.int .i64 (n : Int)
def NumsOwn (w : World) (base : Nat) (v : Value) (l : List Nat) : Prop := w.ownsRow base 3 1 v l.length (numV l)
theorem NumsOwn.keep {w w' : World} {base : Nat} {v : Value} {l : List Nat} (h : NumsOwn w base v l) (hk : Kept w w') : NumsOwn w' base v l := owns_kept h (fun g hg => hk.2.2.2.2 g (World.ownsRow.lt h g hg).2)
theorem NumsOwn.but {w w' : World} {base b : Nat} {v : Value} {l : List Nat} (h : NumsOwn w base v l) (hk : KeptBut b w w') (hb : b < base) : NumsOwn w' base v l := owns_kept h (fun g hg => hk.2.2.2.2 g (World.ownsRow.lt h g hg).2 (by have := (World.ownsRow.lt h g hg).1; omega))
theorem NumsOwn.form {w : World} {base : Nat} {v : Value} {l : List Nat} (h : NumsOwn w base v l) : ∃ a c, v = .slice a l.length c := by
  rcases h.2 with ⟨rfl, h0⟩ | ⟨g, cap, cur, rfl, _⟩
  · exact ⟨none, 0, by rw [h0]⟩
  · exact ⟨_, _, rfl⟩
theorem NumsOwn.pop {w : World} {base g cap n m : Nat} {l : List Nat} {q : Nat} (h : NumsOwn w base (.slice (some ⟨g, 0, none⟩) m cap) (l ++ [q])) (hn : n = l.length) : NumsOwn w base (.slice (some ⟨g, 0, none⟩) n cap) l := by
  subst hn
  rcases h.2 with ⟨e, _⟩ | ⟨g2, cap2, cur, e, hb, hg, hc2, hm2, hcs, hx⟩
  · simp at e
  · simp only [Value.slice.injEq, Option.some.injEq, Addr.mk.injEq] at e
    obtain ⟨⟨rfl, _⟩, _, rfl⟩ := e
    rw [List.length_append, List.length_singleton] at hc2 hx
    refine ⟨by simp [numV], .inr ⟨g, cap, cur, rfl, hb, hg, by omega, hm2, hcs, ?_⟩⟩
    have e2 : cur.toList.take (l.length * 1) = (cur.toList.take ((l.length + 1) * 1)).take (l.length * 1) := by rw [List.take_take]; congr 1; omega
    rw [e2, hx]
    simp [numV]
theorem int_info : (Tryz.prog.info? 3).map (fun i => (i.zero, i.size, i.bytes)) = some (some (.int .i64 0), 1, 8) := by kernel_rfl
theorem step_nums {ops : Array Oper} {o : Oper} {a : Act} {K : Act → World → Prop} {Q : Exit → Act → World → Prop} {E : Prop} (hgd : o.guard = none) (s x : Operand)
    (ho : o.op = .call { callee := .builtin .append, args := #[s, x], argTypes := #[123, 123] }) (W : World) (base : Nat) (v : Value) (l : List Nat) (n : Nat) (hn : l.length = n) (hs : a.eval s = v) (hown : NumsOwn W base v l)
    (lb i k : Nat) (hx : a.eval x = .slice (some ⟨lb, 0, none⟩) 2 2) (hc0 : W.cell? ⟨lb, 0, none⟩ = some (.int .i64 (i : Int))) (hc1 : W.cell? ⟨lb, 1, none⟩ = some (.int .i64 (k : Int))) (hl : n ≤ 1000000) (hbase : base ≤ W.heap.size)
    (h : ∀ g cap w', NumsOwn w' base (.slice (some ⟨g, 0, none⟩) (n + 2) cap) (l ++ [i, k]) → W.grownBy w' v.ownBlock → K (a.put o.dst (.slice (some ⟨g, 0, none⟩) (n + 2) cap)) w') :
    if Region.wanted o (yielded ops a.tmps) = true then Oper.wp Tryz.prog o a W K Q else E := by
  obtain ⟨i0, hi, hz0, hz1, hz2⟩ := info_of int_info
  subst hn
  refine step_append_lies W hgd s x 123 ho base 3 i0 _ 1 8 Tryz.underlying123 hi hz0 hz1 hz2 rfl (by decide) v l.length (numV l) hs hown ⟨lb, 0, none⟩ 2 2 [.int .i64 (i : Int), .int .i64 (k : Int)] hx rfl ?_ ?_ (by decide) (by unfold maxLen; omega) (by omega) hbase W.heap.size rfl ?_
  · intro j y hj
    have hj6 : j < 2 := (List.getElem?_eq_some_iff.1 hj).1
    match j, hj6 with
    | 0, _ => exact hc0.trans hj
    | 1, _ => exact hc1.trans hj
  · intro y hy
    simp only [List.mem_cons, List.not_mem_nil, or_false] at hy
    rcases hy with rfl | rfl <;> rfl
  · intro g cap w' h3 h4 h5 h6
    refine h g cap w' ?_ h4
    show w'.ownsRow base 3 1 _ (l ++ [i, k]).length (numV (l ++ [i, k]))
    rw [List.length_append]
    simpa [numV] using h3
/-- Which forks were seen. -/
def seenV (l : List Bool) : Array Value := (l.map Value.bool).toArray
def SeenAt (w : World) (g : Nat) (l : List Bool) : Prop := w.heap[g]? = some (.cells (seenV l) 4 (0, 0))
theorem bool_info : (Tryz.prog.info? 4).map (fun i => (i.zero, i.size, i.bytes)) = some (some (.bool false), 1, 1) := by kernel_rfl
theorem run_seen (n : Nat) (hn : n ≤ 300000) (w : World) : (Instr.makeSlice 122 (.int .i64 (n : Int)) (.int .i64 (n : Int))).run Tryz.prog w = .ok (.slice (some ⟨w.heap.size, 0, none⟩) n n) (w.alloc (.cells (seenV (List.replicate n false)) 4)) := by
  obtain ⟨i0, hi, hz0, hz1, hz2⟩ := info_of bool_info
  rw [run_make (P := Tryz.prog) w 122 4 i0 _ Tryz.underlying122 hi hz0 .i64 .i64 n n (by omega) (Int.le_refl _) (by rw [hz2]; omega) (by omega)]
  rw [hz1]
  have e : madeCells (Value.bool false).cells ((n : Int).toNat * 1) = seenV (List.replicate n false) := by
    unfold madeCells seenV
    apply Array.ext_getElem?
    intro i
    simp only [Int.toNat_natCast, Nat.mul_one, Array.getElem?_map, List.getElem?_toArray, List.getElem?_map, List.getElem?_replicate]
    by_cases h : i < n
    · simp [h, Value.cells, Nat.mod_one]
    · simp [h]
  rw [e]
  simp

theorem setV_one (A : Nat) : (setV A).all (·.oneCell') = true := by
  rw [Array.all_eq_true_iff_forall_mem]
  intro x hx
  exact setL_one A x (by simpa [setV] using hx)
theorem zero_set : Tryz.zeroCells98 = setV 0 := by kernel_rfl
theorem SeenAt.lt {w : World} {g : Nat} {l : List Bool} (h : SeenAt w g l) : g < w.heap.size := (Array.getElem?_eq_some_iff.1 h).1
theorem SeenAt.keep {w w' : World} {g : Nat} {l : List Bool} (h : SeenAt w g l) (hk : Kept w w') : SeenAt w' g l := (hk.2.2.2.2 g h.lt).trans h
theorem SeenAt.but {w w' : World} {g b : Nat} {l : List Bool} (h : SeenAt w g l) (hk : KeptBut b w w') (hb : g ≠ b) : SeenAt w' g l := (hk.2.2.2.2 g h.lt hb).trans h
theorem SeenAt.cell {w : World} {g i : Nat} {l : List Bool} (h : SeenAt w g l) (hi : i < l.length) : w.cell? ⟨g, i, none⟩ = some (.bool (l.getD i true)) := by
  unfold SeenAt at h
  simp only [World.cell?, h, seenV]
  simp [hi]
theorem SeenAt.free {w : World} {g : Nat} {l : List Bool} (h : SeenAt w g l) (i : Nat) : w.frozen? ⟨g, i, none⟩ = false := by
  unfold SeenAt at h
  simp [World.frozen?, h]
theorem SeenAt.set {w : World} {g : Nat} {l : List Bool} (h : SeenAt w g l) (i : Nat) : SeenAt (w.setCell ⟨g, i, none⟩ (.bool true)) g (l.set i true) := by
  have hl := h.lt
  unfold SeenAt at h ⊢
  have he : w.heap[g] = Obj.cells (seenV l) 4 (0, 0) := by rw [Array.getElem?_eq_getElem hl] at h; exact Option.some.inj h
  have e2 : seenV (l.set i true) = (seenV l).setIfInBounds i (.bool true) := by
    unfold seenV
    apply Array.ext_getElem?
    intro j
    simp only [List.getElem?_toArray, List.getElem?_map, List.getElem?_set, Array.getElem?_setIfInBounds, List.size_toArray, List.length_map]
    by_cases h1 : i = j
    · subst h1
      by_cases h2 : i < l.length <;> simp [h2]
    · simp [h1]
  rw [e2]
  simp [World.setCell, Array.getElem_modify, hl, he]
def isF : Value → Bool
  | .bool b => !b
  | _ => false
def falses (w : World) (g : Nat) : Nat := match w.heap[g]? with
  | some (.cells c _ _) => c.toList.countP isF
  | _ => 0
theorem SeenAt.falses {w : World} {g : Nat} {l : List Bool} (h : SeenAt w g l) : falses w g = l.count false := by
  unfold SeenAt at h
  unfold Ex.falses
  rw [h]
  simp only [seenV]
  rw [List.countP_map, List.count]
  congr 1
  funext b
  cases b <;> rfl
def lenOf : Value → Nat
  | .slice _ n _ => n
  | _ => 0
theorem count_set : ∀ (l : List Bool) (i : Nat), l[i]? = some false → (l.set i true).count false + 1 = l.count false
  | [], i, h => by simp at h
  | b :: l, 0, h => by
    simp only [List.getElem?_cons_zero, Option.some.injEq] at h
    subst h
    simp
  | b :: l, i + 1, h => by
    rw [List.getElem?_cons_succ] at h
    have := count_set l i h
    rw [List.set_cons_succ, List.count_cons, List.count_cons]
    omega
theorem cell_two0 (W : World) (u v : Value) (t : TypeId) : (W.alloc (.cells #[u, v] t)).drew.cell? ⟨W.heap.size, 0, none⟩ = some u := cell_of_row (W.alloc (.cells #[u, v] t)) W.heap.size 0 _ t (0, 0) (heap_alloc_new W _)
theorem cell_two1 (W : World) (u v : Value) (t : TypeId) : (W.alloc (.cells #[u, v] t)).drew.cell? ⟨W.heap.size, 1, none⟩ = some v := cell_of_row (W.alloc (.cells #[u, v] t)) W.heap.size 1 _ t (0, 0) (heap_alloc_new W _)
theorem grown_blk {W w9 : World} {o : Obj} {g l c b : Nat} (hg : (W.alloc o).drew.grownBy w9 (Value.ownBlock (.slice (some ⟨g, 0, none⟩) l c))) (hl : b < W.heap.size) (hb : b ≠ g) : w9.heap[b]? = W.heap[b]? :=
  (hg.block b (by show b < (W.alloc o).heap.size; simp; exact Nat.lt_succ_of_lt hl) (by simp [Value.ownBlock]; exact hb)).trans (heap_alloc_old W o hl)
theorem grown_two {W w9 : World} {o : Obj} {g l c b i : Nat} {v : Value} (hg : (W.alloc o).drew.grownBy w9 (Value.ownBlock (.slice (some ⟨g, 0, none⟩) l c))) (h : W.cell? ⟨b, i, none⟩ = some v) (hb : b ≠ g) : w9.cell? ⟨b, i, none⟩ = some v :=
  (World.cell?_of_block (w := W) (a := ⟨b, i, none⟩) (grown_blk hg (World.block_lt_of_cell? W _ h) hb)).trans h
theorem grown_kept2 {w W w9 : World} {o : Obj} {g l c : Nat} (hg : (W.alloc o).drew.grownBy w9 (Value.ownBlock (.slice (some ⟨g, 0, none⟩) l c))) (h : Kept w W) (hb : w.heap.size ≤ g) : Kept w w9 := by
  have hs : W.heap.size ≤ w9.heap.size := Nat.le_trans (by show W.heap.size ≤ (W.alloc o).heap.size; simp) hg.size
  exact ⟨hg.os.trans h.1, hg.tape.trans h.2.1, hg.output.trans h.2.2.1, Nat.le_trans h.size hs, fun k hk => (grown_blk hg (Nat.lt_of_lt_of_le hk h.size) (by omega)).trans (h.2.2.2.2 k hk)⟩
/-- The loop of reach. -/
def ReachR (w : World) (fs : List (Nat × Nat)) (p : Nat) (vt : Value) (wr : World) : Prop := ∃ (st : List Nat) (seen : List Bool) (A j : Nat), NumsOwn wr (w.heap.size + 3) vt st.reverse ∧ SeenAt wr (w.heap.size + 2) seen ∧ SetAt wr (w.heap.size + 1) A ∧ SetAt wr w.heap.size 0 ∧ Kept w wr ∧ seen.length = fs.length ∧ (∀ q ∈ st, PlaceOk fs.length q) ∧ j + reachK st seen ≤ 2 * fs.length + 1 ∧ ∀ N, reachG fs (j + N) [p] (List.replicate fs.length false) 0 = reachG fs N st seen A

set_option linter.unusedSimpArgs false in
set_option maxRecDepth 100000 in
set_option maxHeartbeats 4000000 in
theorem reach_is (nb : Nat) (fs : List (Nat × Nat)) (p : Nat) (w : World) (h : ForksAt w nb fs) (hok : ForksOk fs) (hp : PlaceOk fs.length p) :
    Calls Tryz.prog 65 #[.pointer (some ⟨nb, 0, none⟩), .int .i64 (p : Int)] w fun e w' => e = .returned (.agg (setV (reachM fs p))) ∧ Kept w w' := by
  have HF := hide1 h
  have HOK := hide1 hok
  have HP := hide1 hp
  obtain ⟨a, cap, c2, hc, _⟩ := h
  have hmk := run_seen fs.length hok.1
  have hnb := World.block_lt_of_cell? w _ c2
  have gn := hok.1
  clear hok hp
  go_enter Tryz.func65, Tryz.ntmps65
  go_wp2_with fail
  rw [zero_set]
  go_loopw [7] (fun vt wr => ReachR w fs p vt wr) (fun vt wr => 2 * falses wr (w.heap.size + 2) + lenOf vt)
  case atStart =>
    refine ⟨[p], List.replicate fs.length false, 0, 0, ?_, ?_, ?_, ?_, ?_, by simp, ?_, by simp [reachK], fun N => by rw [Nat.zero_add]⟩
    · refine ⟨rfl, .inr ⟨w.heap.size + 3, 1, #[.int .i64 (p : Int)], rfl, Nat.le_refl _, ?_, Nat.le_refl _, by unfold maxLen; omega, rfl, rfl⟩⟩
      have := heap_alloc_new (((w.alloc (.cells (setV 0) 98)).alloc (.cells (setV 0) 98)).alloc (.cells (seenV (List.replicate fs.length false)) 4)) (.cells #[.int .i64 (p : Int)] 3)
      simpa using this
    · refine (heap_alloc_old _ _ (by simp)).trans ?_
      have := heap_alloc_new ((w.alloc (.cells (setV 0) 98)).alloc (.cells (setV 0) 98)) (.cells (seenV (List.replicate fs.length false)) 4)
      simpa using this
    · refine (heap_alloc_old _ _ (by simp)).trans ((heap_alloc_old _ _ (by simp)).trans ?_)
      have := heap_alloc_new (w.alloc (.cells (setV 0) 98)) (.cells (setV 0) 98)
      simpa using this
    · exact (heap_alloc_old _ _ (by simp <;> omega)).trans ((heap_alloc_old _ _ (by simp; omega)).trans ((heap_alloc_old _ _ (by simp)).trans (heap_alloc_new w _)))
    · exact ((((Kept.refl w).alloc _ _).alloc _ _).alloc _ _).alloc _ _
    · intro q hq
      rw [List.mem_singleton] at hq
      subst hq
      exact HP.out
  case round =>
    obtain ⟨st, seen, A, j, ht, hs, hA, hZ, hk, hsl, hst, hj, hM⟩ := hrel
    have HT := hide1 ht
    have HSN := hide1 hs
    have HA := hide1 hA
    have HZ := hide1 hZ
    have HK := hide1 hk
    have HST := hide1 hst
    have HM := hide1 hM
    have c2r := grown_cell hk c2
    have hsz := hk.size
    cases st with
    | nil =>
      have HE : Hid (reachM fs p = A) := by
        show _ = _
        unfold reachM
        rw [show 2 * fs.length + 1 = j + (2 * fs.length + 1 - j) by omega, hM, reachG_nil]
      obtain ⟨at_, ct, rfl⟩ := ht.form
      clear hM hst ht hs hA hZ
      go_wp2_with (first
        | (refine wpList_load_row rfl 98 _ rfl (w.heap.size + 1) rfl 98 (setV A) (0, 0) _ (by exact HA.out) Tryz.underlying98 rfl (set_size A) ?_)
        | (refine wpList_store_row rfl 98 _ _ rfl w.heap.size (setV A) rfl rfl 98 (setV 0) (by exact HZ.out) (set_size A) (by rw [setV_size, setV_size]) (setV_one A) ?_))
      refine bodyPost_ret (results_cell_row rfl _ _ w.heap.size 98 (setV A) (0, 0) _ rfl (setRow_heap _ _ _ _ _ _ HZ.out) Tryz.underlying98 rfl (set_size A)) rfl ?_
      rw [HE.out]
      exact ⟨rfl, Kept.of (below_setRow HK.out.below (Nat.le_refl _) _)⟩
    | cons q st =>
      have hq : PlaceOk fs.length q := hst q List.mem_cons_self
      unfold PlaceOk at hq
      rcases ht.2 with ⟨_, h0⟩ | ⟨g, cap2, cur, rfl, hb, hg, hc2, hm2, hcs, hx⟩
      · simp at h0
      · have hlen : (q :: st).reverse.length = st.length + 1 := by simp
        rw [hlen] at hc2 hx ⊢
        have cq : wr.cell? ⟨g, st.length, none⟩ = some (.int .i64 (q : Int)) := cells_row hg hx (by simp [numV])
        have gst : (st.length : Int) ≤ 1000000 := by unfold reachK at hj; simp at hj; omega
        have gcap : (st.length : Int) + 1 ≤ (cap2 : Int) := by omega
        clear hx hcs hm2 hg hM hst ht hs hA hZ
        have HTP := hide1 (NumsOwn.pop (n := st.length) (l := st.reverse) (q := q) (by rw [← List.reverse_cons]; exact HT.out) (by simp))
        have HSP : Hid (∀ q ∈ st, PlaceOk fs.length q) := fun x hx => HST.out x (List.mem_cons_of_mem _ hx)
        by_cases h1 : (q : Int) < 4097
        · have HM2 : Hid (∀ N, reachG fs (j + 1 + N) [p] (List.replicate fs.length false) 0 = reachG fs N st seen (A ||| 2 ^ q)) := fun N => by
            rw [show j + 1 + N = j + (N + 1) by omega, HM.out, reachG, if_pos (by omega)]
          go_wp2_with (first | go_quiet (fail) | (go_at_call 84; refine (put_is A (w.heap.size + 1) q (by omega) _ (by exact HA.out)).mono ?_; rintro e w7 ⟨rfl, hk7, hA7⟩; have HK7 := hide1 hk7; have HA7 := hide1 hA7; clear hk7 hA7))
          go_roundw
          case rel => exact ⟨st, seen, A ||| 2 ^ q, j + 1, HTP.out.but HK7.out (by omega), HSN.out.but HK7.out (by omega), HA7.out, HZ.out.but HK7.out (by omega), KeptBut.up (gtrans HK.out (drewN_kept _ _)) (by omega) HK7.out, hsl, HSP.out, by unfold reachK at hj ⊢; simp at hj; omega, HM2.out⟩
          case measure => rw [(HSN.out.but HK7.out (by omega)).falses, HSN.out.falses]; simp [lenOf]
        · have hi : (q : Int) - 4097 < (fs.length : Int) := by omega
          obtain ⟨i, hqi⟩ : ∃ i, q = 4097 + i := ⟨q - 4097, by omega⟩
          subst hqi
          cases hsee : seen.getD i true with
          | true =>
            have hil : i < seen.length := by omega
            have cs : wr.cell? ⟨w.heap.size + 1 + 1, i, none⟩ = some (.bool true) := by rw [← hsee]; exact HSN.out.cell hil
            have HM2 : Hid (∀ N, reachG fs (j + 1 + N) [p] (List.replicate fs.length false) 0 = reachG fs N st seen A) := fun N => by
              rw [show j + 1 + N = j + (N + 1) by omega, HM.out, reachG, if_neg (by omega), show 4097 + i - 4097 = i by omega, if_pos hsee]
            clear hsee
            go_wp2_with (first | go_quiet (fail))
            go_roundw
            case rel => exact ⟨st, seen, A, j + 1, HTP.out, HSN.out, HA.out, HZ.out, gtrans HK.out (drewN_kept _ _), hsl, HSP.out, by unfold reachK at hj ⊢; simp at hj; omega, HM2.out⟩
            case measure => rw [SeenAt.falses (by exact HSN.out), HSN.out.falses]; simp [lenOf]
          | false =>
            have hil : i < seen.length := by omega
            have cs : wr.cell? ⟨w.heap.size + 1 + 1, i, none⟩ = some (.bool false) := by rw [← hsee]; exact HSN.out.cell hil
            have cf := HSN.out.free i
            rw [show w.heap.size + 2 = w.heap.size + 1 + 1 by omega] at cf
            obtain ⟨⟨x, y⟩, hf⟩ : ∃ f, fs[i]? = some f := ⟨_, List.getElem?_eq_getElem (by omega)⟩
            obtain ⟨a3, cap3, e3, hc3, h3⟩ := HF.out.keep HK.out
            rw [c2r, Option.some.injEq, Value.slice.injEq] at e3
            obtain ⟨rfl, _, rfl⟩ := e3
            rcases h3 with h3 | ⟨gf, rfl, h5⟩
            · rw [h3] at hf; simp at hf
            · obtain ⟨d0, d1⟩ := h5 i _ hf
              dsimp only at d0 d1
              have hgf := World.block_lt_of_cell? wr _ d0
              have HGF : Hid (gf < w.heap.size) := by
                obtain ⟨a4, cap4, e4, _, h4⟩ := HF.out
                rw [c2, Option.some.injEq, Value.slice.injEq] at e4
                obtain ⟨rfl, _, rfl⟩ := e4
                rcases h4 with h4 | ⟨gf', e5, h5'⟩
                · rw [h4] at hf; simp at hf
                · simp only [Option.some.injEq, Addr.mk.injEq] at e5
                  obtain ⟨rfl, _⟩ := e5
                  exact World.block_lt_of_cell? w _ (h5' i _ hf).1
              have HFO := hide1 (HOK.out.2 (x, y) (List.mem_of_getElem? hf))
              have hcnt : (seen.set i true).count false + 1 = seen.count false := count_set seen i (by
                rw [List.getD_eq_getElem?_getD, List.getElem?_eq_getElem hil] at hsee
                rw [List.getElem?_eq_getElem hil]
                simpa using hsee)
              have HCNT := hide1 hcnt
              have HM2 : Hid (∀ N, reachG fs (j + 1 + N) [p] (List.replicate fs.length false) 0 = reachG fs N (y :: x :: st) (seen.set i true) A) := fun N => by
                have e : fs.getD i (0, 0) = (x, y) := by rw [List.getD_eq_getElem?_getD, hf]; rfl
                rw [show j + 1 + N = j + (N + 1) by omega, HM.out, reachG, if_neg (by omega), show 4097 + i - 4097 = i by omega, if_neg (by rw [hsee]; simp), e]
              clear hsee hcnt h5 hf
              go_wp2_with (first | go_quiet (fail))
              rw [show (4097 + (i : Int) - 4097) = i by omega]
              obtain ⟨W1, hW1⟩ : ∃ W1, (wr.drewN nq).setCell ⟨w.heap.size + 1 + 1, i, none⟩ (.bool true) = W1 := ⟨_, rfl⟩
              have hkb : KeptBut (w.heap.size + 2) wr W1 := by rw [← hW1]; exact ((drewN_kept _ _).but _).trans (setCell_but _ _ _ _)
              have HKB := hide1 hkb
              have HS1 : Hid (SeenAt W1 (w.heap.size + 2) (seen.set i true)) := by rw [← hW1]; exact SeenAt.set (w := wr.drewN nq) HSN.out i
              have hsz1 := hkb.2.2.2.1
              have c2a := (World.cell?_of_block (w := wr) (a := ⟨nb, 2, none⟩) (hkb.2.2.2.2 nb (by omega) (by omega))).trans c2r
              have hgfw : gf < w.heap.size := HGF.out
              have d0a := (World.cell?_of_block (w := wr) (a := ⟨gf, i * 2, none⟩) (hkb.2.2.2.2 gf hgf (by omega))).trans d0
              have d1a := (World.cell?_of_block (w := wr) (a := ⟨gf, i * 2 + 1, none⟩) (hkb.2.2.2.2 gf hgf (by omega))).trans d1
              have HT1 := hide1 (HTP.out.but hkb (by omega))
              rw [hW1]
              have hs2 := HSN.out.lt
              have gi0 : (0 : Int) ≤ (i : Int) := by omega
              have gi1 : (i : Int) < (fs.length : Int) := by omega
              clear hkb hW1 c2r d0 d1
              go_region_held3 (fun w' => w'.cell? ⟨nb, 2, none⟩ = some (.slice (some ⟨gf, 0, none⟩) fs.length cap) ∧ w'.cell? ⟨gf, i * 2, none⟩ = some (.int .i64 (x : Int)) ∧ w'.cell? ⟨gf, i * 2 + 1, none⟩ = some (.int .i64 (y : Int))) (first | assumption | go_keep)
                ((refine step_nums rfl _ _ rfl _ (w.heap.size + 3) _ st.reverse st.length (by simp) (by rfl) (HT1.out.keep (gtrans ((Kept.refl _).alloc _ _) (drew_kept _))) W1.heap.size x y (by rfl) (cell_two0 _ _ _ _) (cell_two1 _ _ _ _) (by omega) (by simp; omega) ?_; intro g9 c9 w9 ho9 hg9; have HO9 := hide1 ho9; have HG9 := hide1 hg9; have k0 := grown_two hg9 c2a (by omega); have k1 := grown_two hg9 d0a (by omega); have k2 := grown_two hg9 d1a (by omega); clear ho9 hg9))
              go_wp2_with fail
              go_roundw
              case rel =>
                have e : (y :: x :: st).reverse = st.reverse ++ [x, y] := by simp
                have hz2 := HZ.out.lt
                refine ⟨y :: x :: st, seen.set i true, A, j + 1, by rw [e]; exact HO9.out, (grown_blk HG9.out (by omega) (by omega)).trans HS1.out, (grown_blk HG9.out (by omega) (by omega)).trans (HA.out.but HKB.out (by omega)), (grown_blk HG9.out (by omega) (by omega)).trans (HZ.out.but HKB.out (by omega)), grown_kept2 HG9.out (KeptBut.up HK.out (by omega) HKB.out) (by omega), by simp [hsl], ?_, ?_, HM2.out⟩
                · intro u hu
                  rcases List.mem_cons.1 hu with rfl | hu
                  · exact HFO.out.2
                  · rcases List.mem_cons.1 hu with rfl | hu
                    · exact HFO.out.1
                    · exact HSP.out u hu
                · have := HCNT.out
                  unfold reachK at hj ⊢
                  simp at hj ⊢
                  omega
              case measure =>
                have := HCNT.out
                rw [SeenAt.falses (w := w9) (l := seen.set i true) ((grown_blk HG9.out (by omega) (by omega)).trans HS1.out), HSN.out.falses]
                simp [lenOf]
                omega

end Ex
end Go.Proofs.YtfajoknacfjedaaGreatDoor
