import Derived.Test.YtfajoknacfjedaaGreatDoorMExSt6
import Derived.Maps.OwnOps
import Derived.Maps.OwnSet
import Derived.DeepKeys4
import Derived.ScopeJumps
import Derived.ChangeKeysEq
namespace Go.Proofs.YtfajoknacfjedaaGreatDoor
open Go.RowKit Go.Maps
attribute [local go_sem] Oper.semAt_some
namespace Ex

theorem laid_out : laidOutB Tryz.prog = true := by kernel_rfl
theorem set_row : (98 : TypeId) < Tryz.prog.types.size := of_decide_eq_true (by kernel_rfl)
theorem set_wide : (match Tryz.prog.underlying 98 with | some (.array _ _) | some (.struct _) => true | _ => false) = true := by rw [Tryz.underlying98]
/-- Sets as keys of a map. -/
theorem set_kt : Tryz.prog.keyTypeAt 2 98 = true := by kernel_rfl
set_option maxRecDepth 100000 in
theorem set_law : WideMaps.KeyLaw Tryz.prog 98 := deep_law_laid laid_out (m := 2) (by omega) set_row set_kt set_wide
theorem set_keyed : Keyed Tryz.prog 98 := Keyed.of_law set_law
theorem set_cells : Tryz.prog.cellsOf 98 = 65 := by kernel_rfl
theorem word_cells : Tryz.prog.cellsOf 83 = 1 := by kernel_rfl
theorem set_keyType : Tryz.prog.keyType 98 = true := by kernel_rfl
theorem types_big : ∃ m, Tryz.prog.types.size = m + 2 := ⟨Tryz.prog.types.size - 2, by have h : 2 ≤ Tryz.prog.types.size := of_decide_eq_true (by kernel_rfl); omega⟩
theorem word_wf (A i : Nat) : (Lit.int .u64 ((wordAt A i : Nat) : Int)).wf = true := by
  have := word_lt A i
  simp [Lit.wf, IntKind.min, IntKind.max, IntKind.signed, IntKind.bits]
  omega
theorem mapM_all {α β : Type} (f : α → Option β) (g : α → β) : ∀ (l : List α), (∀ x ∈ l, f x = some (g x)) → l.mapM f = some (l.map g)
  | [], _ => rfl
  | x :: l, h => by
    have h1 := h x List.mem_cons_self
    have h2 := mapM_all f g l (fun z hz => h z (List.mem_cons_of_mem _ hz))
    simp [List.mapM_cons, h1, h2]
theorem flat_single {α β : Type} (g : α → β) : ∀ l : List α, (l.map fun x => [g x]).flatten = l.map g
  | [] => rfl
  | x :: l => by rw [List.map_cons, List.flatten_cons, flat_single g l]; rfl
/-- The key of a set. -/
def keyL (A : Nat) : Lit := .string (keyBytes ((List.range 65).map fun i => Lit.int .u64 ((wordAt A i : Nat) : Int)))
theorem keyL_is (A : Nat) : keyOf Tryz.prog 98 (.agg (setV A)) = some (keyL A) := by
  obtain ⟨m, hm⟩ := types_big
  unfold keyOf
  simp only [Tryz.underlying98]
  rw [if_pos (by simp [set_keyType, Value.formed, Tryz.underlying98, set_cells, setV_size]), hm]
  unfold Program.keyLits
  simp only [Tryz.underlying98, Value.cells]
  have hl : (setV A).toList.length = Tryz.prog.cellsOf 98 := by rw [set_cells]; simp [setV_size]
  have hys := mapM_all (fun i => Tryz.prog.keyLits (m + 2) 83 (((setV A).toList.drop (i * Tryz.prog.cellsOf 83)).take (Tryz.prog.cellsOf 83))) (fun i => [Lit.int .u64 ((wordAt A i : Nat) : Int)]) (List.range 65) (by
    intro i hi
    have hi2 := List.mem_range.1 hi
    have e : ((setV A).toList.drop (i * Tryz.prog.cellsOf 83)).take (Tryz.prog.cellsOf 83) = [.int .u64 (wordAt A i : Nat)] := by
      rw [word_cells, Nat.mul_one]
      have h2 := setV_at A hi2
      rw [← Array.getElem?_toList] at h2
      obtain ⟨h3, h4⟩ := List.getElem?_eq_some_iff.1 h2
      rw [List.drop_eq_getElem_cons h3, h4]
      rfl
    rw [e]
    unfold Program.keyLits
    rw [Tryz.underlying83]
    simp [word_wf])
  rw [if_pos hl, hys]
  show some (Lit.string (keyBytes (((List.range 65).map fun i => [Lit.int .u64 ((wordAt A i : Nat) : Int)]).flatten))) = _
  rw [flat_single]
  rfl
theorem keyL_inj {A B : Nat} (hA : A < top) (hB : B < top) (h : keyL A = keyL B) : A = B := by
  have h1 := keyL_is A
  rw [h] at h1
  have h2 := set_keyed.inj h1 (keyL_is B)
  simp only [Value.agg.injEq] at h2
  refine set_ext hA hB (fun i hi => ?_)
  have h3 := setV_at A hi
  rw [h2, setV_at B hi] at h3
  simp only [Option.some.injEq, Value.int.injEq, true_and] at h3
  omega

/-- How a pointer to a stop reads: as its block's number. -/
def ptrR : Value → Option (DataW Unit × List MemPlace)
  | .pointer none => some (.lit (.int .i64 (-1)), [])
  | .pointer (some ⟨b, 0, none⟩) => some (.lit (.int .i64 (b : Int)), [])
  | _ => none
def noStop : DataW Unit := .lit (.int .i64 (-1))
theorem ptrR_inv {v : Value} {z : DataW Unit × List MemPlace} (h : ptrR v = some z) : (v = .pointer none ∧ z.1 = noStop) ∨ ∃ b : Nat, v = .pointer (some ⟨b, 0, none⟩) ∧ z.1 = .lit (.int .i64 (b : Int)) := by
  unfold ptrR at h
  split at h
  · cases h; exact .inl ⟨rfl, rfl⟩
  · cases h; exact .inr ⟨_, rfl, rfl⟩
  · cases h
theorem ptr_zero (w : World) : (zeroValue 95).run Tryz.prog w = .ok (.pointer none) w := by kernel_rfl
/-- A stop's cells. -/
def stopV (A : Nat) (vw : Value) : Array Value := (setV A).push vw
theorem built_stop (A : Nat) : Tryz.prog.built 102 [(0, .agg (setV A))] = some (stopV A (.slice none 0 0)) := by kernel_rfl

end Ex
end Go.Proofs.YtfajoknacfjedaaGreatDoor
namespace Go.Proofs.YtfajoknacfjedaaGreatDoor
open Go.RowKit Go.Maps
attribute [local go_sem] Oper.semAt_some
namespace Ex

/-- The map of stops. -/
def MapAt (w : World) (mb n : Nat) (D : DataW Unit) : Prop := w.ownsMap Tryz.prog 98 ptrR mb n D
theorem MapAt.lt {w : World} {mb n : Nat} {D : DataW Unit} (h : MapAt w mb n D) : mb < w.heap.size := World.ownsMap.lt h
theorem MapAt.same {w w' : World} {mb n : Nat} {D : DataW Unit} (h : MapAt w mb n D) (he : w'.heap[mb]? = w.heap[mb]?) : MapAt w' mb n D := by
  obtain ⟨es, clock, hb, F, hs, hD⟩ := h
  exact ⟨es, clock, he.trans hb, F, hs, hD⟩
theorem MapAt.keep {w w' : World} {mb n : Nat} {D : DataW Unit} (h : MapAt w mb n D) (hk : Kept w w') : MapAt w' mb n D := h.same (hk.2.2.2.2 mb h.lt)
theorem MapAt.but {w w' : World} {b mb n : Nat} {D : DataW Unit} (h : MapAt w mb n D) (hk : KeptBut b w w') (hb : mb ≠ b) : MapAt w' mb n D := h.same (hk.2.2.2.2 mb h.lt hb)
theorem MapAt.up {w : World} {mb n m : Nat} {D : DataW Unit} (h : MapAt w mb n D) (hm : n ≤ m) : MapAt w mb m D := World.ownsMap.mono h hm
/-- 'clear' of a map. -/
theorem wpl_clear {ops : Array Oper} {rest : List Oper} {o : Oper} {a : Act} {Q : Exit → Act → World → Prop} (hg : o.guard = none) (m : Operand) (hop : o.op = Op.call { callee := Callee.builtin Builtin.clear, args := #[m], argTypes := #[94] })
    (w : World) (mb n : Nat) (D : DataW Unit) (hm : a.eval m = .map (some mb)) (hown : MapAt w mb n D)
    (hK : ∀ w', MapAt w' mb 0 (.map []) → KeptBut mb w w' → wpList Tryz.prog ops Q rest (a.put o.dst (.tuple #[])) w') : wpList Tryz.prog ops Q (o :: rest) a w := by
  refine wpList_plain hg fun K' hK' => ?_
  obtain ⟨es, clock, hb, F, hs, hD⟩ := hown
  have hl : mb < w.heap.size := (Array.getElem?_eq_some_iff.1 hb).1
  unfold Oper.wp
  simp [execOp, hop, resolve, invoke, builtin, hm, Builtin.clear_, run_underlying Tryz.underlying94, MapKept.run_getObj_map hb, MapKept.run_setObj_map _ hb, Result.andThen]
  refine hK' _ _ (hK _ ⟨#[], clock, by simp [hl], ⟨by simp, MapKept.stamped_empty clock, by simp⟩, Nat.le_refl _, rfl⟩ ⟨rfl, rfl, rfl, by simp, fun k hk hne => ?_⟩)
  simp [Ne.symm hne]

theorem wpl_build_stop {ops : Array Oper} {rest : List Oper} {o : Oper} {a : Act} {Q : Exit → Act → World → Prop} {w : World} (hg : o.guard = none) (x : Operand) (ho : o.op = .build 102 #[(0, x)]) (A : Nat) (hx : a.eval x = .agg (setV A))
    (h : wpList Tryz.prog ops Q rest (a.put o.dst (.agg (stopV A (.slice none 0 0)))) w) : wpList Tryz.prog ops Q (o :: rest) a w := by
  have e : Tryz.prog.built 102 ((#[(0, x)] : Array (Nat × Operand)).map fun (i, x) => (i, a.eval x)).toList = some (stopV A (.slice none 0 0)) := by
    have e2 : ((#[(0, x)] : Array (Nat × Operand)).map fun (i, x) => (i, a.eval x)).toList = [(0, .agg (setV A))] := by simp [hx]
    rw [e2]
    exact built_stop A
  refine wpList_build hg 102 _ ho (by rw [e]; rfl) ?_
  rw [e]
  exact h
theorem but_grown {w w' : World} {b : Nat} (h : w.grownBy w' (some b)) : KeptBut b w w' := ⟨h.os, h.tape, h.output, h.size, fun k hk hne => h.block k hk (fun e => hne (Option.some.inj e))⟩
set_option linter.unusedSimpArgs false in
set_option maxRecDepth 100000 in
set_option maxHeartbeats 4000000 in
theorem stopOf_is (A mb n : Nat) (D : DataW Unit) (w : World) (h : MapAt w mb n D) (hn : n ≤ 1000000) :
    Calls Tryz.prog 64 #[.map (some mb), .agg (setV A)] w fun e w' => Hid (
      (∃ b : Nat, e = .returned (.pointer (some ⟨b, 0, none⟩)) ∧ D.atKey (keyL A) noStop = .lit (.int .i64 (b : Int)) ∧ Kept w w') ∨
      (∃ (q : Nat) (D' : DataW Unit), e = .returned (.pointer (some ⟨q, 0, none⟩)) ∧ w.heap.size ≤ q ∧ w'.heap[q]? = some (.cells (stopV A (.slice none 0 0)) 102 (0, 0)) ∧ (D' = D ∨ D' = .map []) ∧ MapAt w' mb (n + 1) (D'.put (keyL A) (.lit (.int .i64 (q : Int)))) ∧ KeptBut mb w w')) := by
  have HM := hide1 h
  obtain ⟨v, ps, hrun, hR⟩ := (h.alloc (.cells (setV A) 98)).lookup set_keyed Tryz.underlying94 (ptr_zero _) (zd := noStop) (zp := []) rfl (keyL_is A)
  rcases ptrR_inv hR with ⟨rfl, hz⟩ | ⟨b, rfl, hz⟩
  · dsimp only at hz
    have hmb := h.lt
    have gn : n < maxLen := by unfold maxLen; omega
    clear h hR hz
    by_cases hs : (Maps.size D : Int) = 1024
    · go_enter Tryz.func64, Tryz.ntmps64
      go_wp2_with (first
        | (refine wpList_load_row rfl 98 _ rfl w.heap.size rfl 98 (setV A) (0, 0) _ (by first | exact SetAt.new w A | exact HS7.out | exact SetAt.keep HS7.out ((Kept.refl _).alloc _ _)) Tryz.underlying98 rfl (set_size A) ?_)
        | (at_len; refine wpList_len_own _ rfl _ 94 rfl 98 95 Tryz.underlying94 _ mb n D rfl (HM.out.alloc _) ?_)
        | (refine wpl_clear rfl _ rfl _ mb n D rfl (HM.out.alloc _) ?_; intro w7 hm7 hk7; have HM7 := hide1 hm7; have HK7 := hide1 hk7; have HS7 := hide1 ((SetAt.new w A).but hk7 (by omega)); clear hm7 hk7)
        | (refine wpl_build_stop rfl _ rfl A rfl ?_)
        | (at_mapUpdate; refine wpList_mapUpdate_own _ rfl _ _ _ 94 rfl 98 95 set_keyed Tryz.underlying94 ptrR mb 0 (.map []) rfl (HM7.out.alloc _) (by unfold maxLen; omega) _ _ (keyL A) rfl rfl (keyL_is A) (.lit (.int .i64 (w7.heap.size : Int))) [] (by rfl) ?_; intro w9 hm9 hg9; have HM9 := hide1 hm9; have HG9 := hide1 (but_grown hg9); clear hm9 hg9))
      go_ret
      have hs7 := HK7.out.2.2.2.1
      simp at hs7
      have hkw := (((Kept.refl w).alloc (setV A) 98).but mb).trans (HK7.out.trans (((Kept.refl w7).alloc _ _).but mb |>.trans HG9.out))
      exact .inr ⟨w7.heap.size, .map [], rfl, by omega, (HG9.out.2.2.2.2 w7.heap.size (by simp) (by omega)).trans (heap_alloc_new w7 _), .inr rfl, MapAt.up (n := 0 + 1) HM9.out (by omega), hkw⟩
    · go_enter Tryz.func64, Tryz.ntmps64
      go_wp2_with (first
        | (refine wpList_load_row rfl 98 _ rfl w.heap.size rfl 98 (setV A) (0, 0) _ (by first | exact SetAt.new w A | exact SetAt.keep (SetAt.new w A) ((Kept.refl _).alloc _ _)) Tryz.underlying98 rfl (set_size A) ?_)
        | (at_len; refine wpList_len_own _ rfl _ 94 rfl 98 95 Tryz.underlying94 _ mb n D rfl (HM.out.alloc _) ?_)
        | (refine wpl_build_stop rfl _ rfl A rfl ?_)
        | (at_mapUpdate; refine wpList_mapUpdate_own _ rfl _ _ _ 94 rfl 98 95 set_keyed Tryz.underlying94 ptrR mb n D rfl ((HM.out.alloc _).alloc _) gn _ _ (keyL A) rfl rfl (keyL_is A) (.lit (.int .i64 ((w.heap.size + 1 : Nat) : Int))) [] (by rfl) ?_; intro w9 hm9 hg9; have HM9 := hide1 hm9; have HG9 := hide1 (but_grown hg9); clear hm9 hg9))
      go_ret
      exact .inr ⟨w.heap.size + 1, D, rfl, by omega, (HG9.out.2.2.2.2 (w.heap.size + 1) (by simp) (by omega)).trans (heap_alloc2_new w _ _), .inl rfl, HM9.out, ((((Kept.refl w).alloc _ _).alloc _ _).but mb).trans HG9.out⟩
  · dsimp only at hz
    go_enter Tryz.func64, Tryz.ntmps64
    go_wp2_with (refine wpList_load_row rfl 98 _ rfl w.heap.size rfl 98 (setV A) (0, 0) _ (by exact SetAt.new w A) Tryz.underlying98 rfl (set_size A) ?_)
    go_ret
    exact .inl ⟨b, rfl, hz, (Kept.refl w).alloc _ _⟩

end Ex
end Go.Proofs.YtfajoknacfjedaaGreatDoor
namespace Go.Proofs.YtfajoknacfjedaaGreatDoor
open Go.RowKit Go.Maps
namespace Ex

/-- The ways from a stop, as cells: a byte and the stop that it leads to. -/
def wayC (l : List (Int × Nat)) : List Value := l.flatMap fun c => [.int .u8 c.1, .pointer (some ⟨c.2, 0, none⟩)]
theorem wayC_snoc (l : List (Int × Nat)) (c : Int × Nat) : wayC (l ++ [c]) = wayC l ++ [.int .u8 c.1, .pointer (some ⟨c.2, 0, none⟩)] := by
  unfold wayC
  rw [List.flatMap_append]
  rfl
theorem wayC_at : ∀ (l : List (Int × Nat)) (i : Nat) (c : Int × Nat), l[i]? = some c → (wayC l)[i * 2]? = some (.int .u8 c.1) ∧ (wayC l)[i * 2 + 1]? = some (.pointer (some ⟨c.2, 0, none⟩))
  | [], i, c, h => by simp at h
  | d :: l, 0, c, h => by
    simp only [List.getElem?_cons_zero, Option.some.injEq] at h
    subst h
    exact ⟨rfl, rfl⟩
  | d :: l, i + 1, c, h => by
    rw [List.getElem?_cons_succ] at h
    have := wayC_at l i c h
    have e : wayC (d :: l) = .int .u8 d.1 :: .pointer (some ⟨d.2, 0, none⟩) :: wayC l := rfl
    rw [e, show (i + 1) * 2 = i * 2 + 2 by omega, show i * 2 + 2 + 1 = i * 2 + 1 + 2 by omega]
    simp only [List.getElem?_cons_succ]
    exact this
/-- A stop in block p: its set, its ways. -/
def StopAt (ts : List (Int × Int × Nat)) (fs : List (Nat × Nat)) (B M : Nat) (κ ω : Nat → Option Nat) (w : World) (p A : Nat) (vw : Value) (l : List (Int × Nat)) : Prop :=
  w.heap[p]? = some (.cells (stopV A vw) 102 (0, 0)) ∧ w.ownsRow B 105 2 vw l.length (wayC l) ∧ l.length ≤ M ∧ (∀ c q, (c, q) ∈ l → κ q = some (stepM ts fs A c) ∧ stepM ts fs A c ≠ 0) ∧ ∀ g, vw.ownBlock = some g → ω g = some p
/-- The state of a run: κ: which blocks are stops, and of which sets; ω: which are rows of ways, and of which stops; S: where chunks lie; D: the map. -/
structure RunSt (ts : List (Int × Int × Nat)) (fs : List (Nat × Nat)) (nb tb fb first mb M : Nat) (w0 : World) (κ ω : Nat → Option Nat) (S : Nat → Prop) (D : DataW Unit) (w : World) : Prop where
  net : NetRun S w nb tb fb first ts fs
  kept : KeptBut tb w0 w
  tab : TabAt w
  mbl : w0.heap.size ≤ mb ∧ ¬ S mb ∧ κ mb = none ∧ ω mb = none
  map : MapAt w mb M D
  isMap : IsMap D
  mapOk : ∀ (A : Nat) (b : Int), A < top → D.atKey (keyL A) noStop = .lit (.int .i64 b) → b = -1 ∨ ∃ q : Nat, b = (q : Int) ∧ κ q = some A
  stops : ∀ p A, κ p = some A → w0.heap.size ≤ p ∧ ¬ S p ∧ ω p = none ∧ A < top ∧ PlacesOk A ts.length ∧ ∃ vw l, StopAt ts fs w0.heap.size M κ ω w p A vw l
  ways : ∀ g p, ω g = some p → w0.heap.size ≤ g ∧ ¬ S g ∧ κ g = none ∧ g < w.heap.size
/-- What lies below the run. -/
structure RunF (fs : List (Nat × Nat)) (nb tb fb : Nat) (w0 : World) : Prop where
  hnb : nb < w0.heap.size
  htb : tb < w0.heap.size
  hfb : fs = [] ∨ fb < w0.heap.size
  htab : 1 < w0.heap.size
  htbt : tb ≠ 1
section
variable {ts : List (Int × Int × Nat)} {fs : List (Nat × Nat)} {nb tb fb first mb M : Nat} {w0 w w' : World} {κ ω : Nat → Option Nat} {S : Nat → Prop} {D : DataW Unit}
theorem RunSt.lt (h : RunSt ts fs nb tb fb first mb M w0 κ ω S D w) {p A : Nat} (hp : κ p = some A) : p < w.heap.size := by
  obtain ⟨_, _, _, _, _, vw, l, hs, _⟩ := h.stops p A hp
  exact (Array.getElem?_eq_some_iff.1 hs).1
/-- A step keeps the state. -/
theorem RunSt.step (h : RunSt ts fs nb tb fb first mb M w0 κ ω S D w) (hF : RunF fs nb tb fb w0) (hn : NetRun (SNew S w w') w' nb tb fb first ts fs) (hk : KeptBut tb w w') : RunSt ts fs nb tb fb first mb M w0 κ ω (SNew S w w') D w' := by
  have htb := hF.htb
  have hm := h.map.lt
  have hmb := h.mbl
  have hsz := hk.2.2.2.1
  refine ⟨hn, h.kept.trans hk, h.tab.but hk hF.htbt, ⟨hmb.1, fun e => ?_, hmb.2.2⟩, h.map.but hk (by omega), h.isMap, h.mapOk, fun p A hp => ?_, fun g p hg => ?_⟩
  · rcases e with e | e
    · exact hmb.2.1 e
    · omega
  · have hlt := h.lt hp
    obtain ⟨h1, h2, h3, h4, h5, vw, l, s1, s2, s3⟩ := h.stops p A hp
    refine ⟨h1, fun e => ?_, h3, h4, h5, vw, l, (hk.2.2.2.2 p hlt (by omega)).trans s1, owns_kept s2 (fun g hg => hk.2.2.2.2 g (s2.lt g hg).2 (by have := (s2.lt g hg).1; omega)), s3⟩
    rcases e with e | e
    · exact h2 e
    · omega
  · obtain ⟨h1, h2, h3, h4⟩ := h.ways g p hg
    refine ⟨h1, fun e => ?_, h3, by omega⟩
    rcases e with e | e
    · exact h2 e
    · omega
/-- New blocks alone. -/
theorem RunSt.keep (h : RunSt ts fs nb tb fb first mb M w0 κ ω S D w) (hk : Kept w w') : RunSt ts fs nb tb fb first mb M w0 κ ω S D w' :=
  ⟨h.net.keep hk, h.kept.trans (hk.but tb), h.tab.keep hk, h.mbl, h.map.keep hk, h.isMap, h.mapOk, fun p A hp => by
    have hlt := h.lt hp
    obtain ⟨h1, h2, h3, h4, h5, vw, l, s1, s2, s3⟩ := h.stops p A hp
    exact ⟨h1, h2, h3, h4, h5, vw, l, (hk.2.2.2.2 p hlt).trans s1, owns_kept s2 (fun g hg => hk.2.2.2.2 g (s2.lt g hg).2), s3⟩, fun g p hg => by
    obtain ⟨h1, h2, h3, h4⟩ := h.ways g p hg
    exact ⟨h1, h2, h3, Nat.lt_of_lt_of_le h4 hk.size⟩⟩
theorem RunSt.more (h : RunSt ts fs nb tb fb first mb M w0 κ ω S D w) {M' : Nat} (hM : M ≤ M') : RunSt ts fs nb tb fb first mb M' w0 κ ω S D w :=
  ⟨h.net, h.kept, h.tab, h.mbl, h.map.up hM, h.isMap, h.mapOk, fun p A hp => by
    obtain ⟨h1, h2, h3, h4, h5, vw, l, s1, s2, s3, s4⟩ := h.stops p A hp
    exact ⟨h1, h2, h3, h4, h5, vw, l, s1, s2, Nat.le_trans s3 hM, s4⟩, h.ways⟩
/-- A new stop. -/
theorem RunSt.made (h : RunSt ts fs nb tb fb first mb M w0 κ ω S D w) (hF : RunF fs nb tb fb w0) {q A : Nat} {D' : DataW Unit} (hq : w.heap.size ≤ q) (hs : w'.heap[q]? = some (.cells (stopV A (.slice none 0 0)) 102 (0, 0))) (hD : D' = D ∨ D' = .map [])
    (hm : MapAt w' mb (M + 1) (D'.put (keyL A) (.lit (.int .i64 (q : Int))))) (hk : KeptBut mb w w') (hA : A < top) (hP : PlacesOk A ts.length) :
    RunSt ts fs nb tb fb first mb (M + 1) w0 (fun d => if d = q then some A else κ d) ω S (D'.put (keyL A) (.lit (.int .i64 (q : Int)))) w' := by
  have htb := hF.htb
  have hnb := hF.hnb
  have htab := hF.htab
  have hmb := h.mbl
  have hml := h.map.lt
  have hsz := hk.2.2.2.1
  have hw0 := h.kept.2.2.2.1
  have hi : IsMap D' := by
    rcases hD with e | e
    · rw [e]; exact h.isMap
    · rw [e]; exact isMap_empty
  have hold : ∀ p B, κ p = some B → (if p = q then some A else κ p) = some B := fun p B hp => by
    have := h.lt hp
    rw [if_neg (by omega)]
    exact hp
  have hωq : ω q = none := by
    cases hw : ω q with
    | none => rfl
    | some p => have := (h.ways q p hw).2.2.2; omega
  have hSq : ¬ S q := fun e => by have := h.net.apart.2.2 q e; omega
  refine ⟨h.net.but hk (by omega) (by omega) (hF.hfb.imp id (fun e => by omega)) hmb.2.1, ?_, h.tab.but hk (by omega), ⟨hmb.1, hmb.2.1, ?_, hmb.2.2.2⟩, hm, hi.put _ _, ?_, ?_, ?_⟩
  · have h5 := h.kept
    exact ⟨hk.1.trans h5.1, hk.2.1.trans h5.2.1, hk.2.2.1.trans h5.2.2.1, Nat.le_trans h5.2.2.2.1 hsz, fun k hlt hne => (hk.2.2.2.2 k (Nat.lt_of_lt_of_le hlt h5.2.2.2.1) (by omega)).trans (h5.2.2.2.2 k hlt hne)⟩
  · rw [if_neg (by omega)]; exact hmb.2.2.1
  · intro B b hB he
    by_cases hBA : B = A
    · subst hBA
      rw [atKey_put_same hi (set_keyed.key (keyL_is B))] at he
      simp only [DataW.lit.injEq, Lit.int.injEq, true_and] at he
      exact .inr ⟨q, he.symm, by simp⟩
    · rw [atKey_put_other (fun e => hBA (keyL_inj hB hA e))] at he
      rcases hD with e | e
      · rw [e] at he
        rcases h.mapOk B b hB he with h1 | ⟨q', h1, h2⟩
        · exact .inl h1
        · exact .inr ⟨q', h1, hold q' B h2⟩
      · rw [e] at he
        have e2 : (DataW.map [] : DataW Unit).atKey (keyL B) noStop = noStop := rfl
        rw [e2] at he
        unfold noStop at he
        simp only [DataW.lit.injEq, Lit.int.injEq, true_and] at he
        exact .inl he.symm
  · intro p B hp
    by_cases hpq : p = q
    · subst hpq
      simp only [if_true, Option.some.injEq] at hp
      subst hp
      exact ⟨by omega, hSq, hωq, hA, hP, .slice none 0 0, [], hs, World.ownsRow_nil _ _ _ _, Nat.zero_le _, fun c q hc => by simp at hc, fun g hg => by simp [Value.ownBlock] at hg⟩
    · rw [if_neg hpq] at hp
      have hlt := h.lt hp
      obtain ⟨h1, h2, h3, h4, h5, vw, l, s1, s2, s3, s4, s5⟩ := h.stops p B hp
      refine ⟨h1, h2, h3, h4, h5, vw, l, (hk.2.2.2.2 p hlt (fun e => by rw [e, hmb.2.2.1] at hp; cases hp)).trans s1, owns_kept s2 (fun g hg => hk.2.2.2.2 g (s2.lt g hg).2 (fun e => by have := s5 g hg; rw [e, hmb.2.2.2] at this; cases this)), by omega, fun c q' hc => ⟨hold _ _ (s4 c q' hc).1, (s4 c q' hc).2⟩, s5⟩
  · intro g p hg
    obtain ⟨h1, h2, h3, h4⟩ := h.ways g p hg
    exact ⟨h1, h2, by rw [if_neg (by omega)]; exact h3, by omega⟩
theorem stopV_set (A : Nat) (vw v : Value) : (stopV A vw).setIfInBounds 65 v = stopV A v := by
  apply Array.ext_getElem?
  intro i
  unfold stopV
  rw [Array.getElem?_setIfInBounds, Array.size_push, setV_size]
  by_cases h : 65 = i
  · subst h
    have e : ∀ u : Value, ((setV A).push u)[65]? = some u := fun u => by
      have := Array.getElem?_push_size (xs := setV A) (x := u)
      rwa [setV_size] at this
    rw [if_pos rfl, if_pos (by omega)]
    exact (e v).symm
  · rw [if_neg h, Array.getElem?_push, Array.getElem?_push, setV_size, if_neg (by omega), if_neg (by omega)]
/-- A new way from a stop. -/
theorem RunSt.way (h : RunSt ts fs nb tb fb first mb M w0 κ ω S D w) (hF : RunF fs nb tb fb w0) {p A : Nat} (hp : κ p = some A) {vw : Value} {l : List (Int × Nat)} (hs : StopAt ts fs w0.heap.size M κ ω w p A vw l) {W w2 : World} (hk1 : Kept w W) (hg : W.grownBy w2 vw.ownBlock)
    {g cap q : Nat} {c : Int} (hown : w2.ownsRow w0.heap.size 105 2 (.slice (some ⟨g, 0, none⟩) (l.length + 1) cap) (l.length + 1) (wayC (l ++ [(c, q)]))) (hloc : vw.ownBlock = some g ∨ g = W.heap.size) (hq : κ q = some (stepM ts fs A c)) (hq0 : stepM ts fs A c ≠ 0) :
    RunSt ts fs nb tb fb first mb (M + 1) w0 κ (fun d => if d = g then some p else ω d) S D (w2.setCell ⟨p, 65, none⟩ (.slice (some ⟨g, 0, none⟩) (l.length + 1) cap)) := by
  have htb := hF.htb
  have hnb := hF.hnb
  have htab := hF.htab
  have hmb := h.mbl
  have hml := h.map.lt
  have hpl := h.lt hp
  obtain ⟨p1, p2, p3, p4, p5, _⟩ := h.stops p A hp
  obtain ⟨s1, s2, s3, s4, s5⟩ := hs
  have hw0 := h.kept.2.2.2.1
  have hW := hk1.size
  have hsz : w.heap.size ≤ w2.heap.size := Nat.le_trans hW hg.size
  have hold : ∀ d, vw.ownBlock = some d → ω d = some p ∧ w0.heap.size ≤ d ∧ ¬ S d ∧ κ d = none ∧ d < w.heap.size := fun d hd => ⟨s5 d hd, h.ways d p (s5 d hd)⟩
  have hset : ∀ k, k ≠ p → (w2.setCell ⟨p, 65, none⟩ (.slice (some ⟨g, 0, none⟩) (l.length + 1) cap)).heap[k]? = w2.heap[k]? := fun k hk => Below.heap_setCell _ _ _ _ hk
  have hsame2 : ∀ k, k < w.heap.size → some k ≠ vw.ownBlock → w2.heap[k]? = w.heap[k]? := fun k hk hne => (hg.block k (by omega) hne).trans (hk1.2.2.2.2 k hk)
  have hpo : some p ≠ vw.ownBlock := fun e => by have := (hold p e.symm).1; rw [p3] at this; cases this
  have same : ∀ k, k < w.heap.size → k ≠ p → some k ≠ vw.ownBlock → (w2.setCell ⟨p, 65, none⟩ (.slice (some ⟨g, 0, none⟩) (l.length + 1) cap)).heap[k]? = w.heap[k]? := fun k hk h1 h2 => (hset k h1).trans (hsame2 k hk h2)
  have hgp : g ≠ p := by
    rcases hloc with e | e
    · intro e2; rw [e2] at e; exact hpo e.symm
    · omega
  have hg1 : w0.heap.size ≤ g ∧ ¬ S g ∧ κ g = none := by
    rcases hloc with e | e
    · have := hold g e; exact ⟨this.2.1, this.2.2.1, this.2.2.2.1⟩
    · refine ⟨by omega, fun e2 => by have := h.net.apart.2.2 g e2; omega, ?_⟩
      cases hc : κ g with
      | none => rfl
      | some B => have := h.lt hc; omega
  have hgl := (World.ownsRow.lt hown g rfl).2
  have hog : ∀ g' p', ω g' = some p' → p' ≠ p → g' ≠ g := fun g' p' h1 h2 => by
    rcases hloc with e | e
    · intro e2
      have := (hold g e).1
      rw [← e2, h1] at this
      exact h2 (Option.some.inj this)
    · have := (h.ways g' p' h1).2.2.2; omega
  have hnet : NetRun S w2 nb tb fb first ts fs := by
    cases ho : vw.ownBlock with
    | none => rw [ho] at hg; exact (h.net.keep hk1).keep (kept_grown hg)
    | some d =>
      rw [ho] at hg
      have hd := hold d ho
      exact (h.net.keep hk1).but (but_grown hg) (by omega) (by omega) (hF.hfb.imp id (fun e => by omega)) hd.2.2.1
  have htab2 : TabAt w2 := by
    cases ho : vw.ownBlock with
    | none => rw [ho] at hg; exact (h.tab.keep hk1).keep (kept_grown hg)
    | some d =>
      rw [ho] at hg
      have hd := hold d ho
      exact (h.tab.keep hk1).but (but_grown hg) (by omega)
  refine ⟨hnet.but (setCell_but _ _ _ _) (by omega) (by omega) (hF.hfb.imp id (fun e => by omega)) p2, ?_, htab2.but (setCell_but _ _ _ _) (by omega), ⟨hmb.1, hmb.2.1, hmb.2.2.1, ?_⟩, ?_, h.isMap, h.mapOk, ?_, ?_⟩
  · have h5 := h.kept
    refine ⟨hg.os.trans (hk1.1.trans h5.1), hg.tape.trans (hk1.2.1.trans h5.2.1), hg.output.trans (hk1.2.2.1.trans h5.2.2.1), by simpa [World.setCell] using Nat.le_trans hw0 hsz, fun k hlt hne => (same k (by omega) (by omega) (fun e => ?_)).trans (h5.2.2.2.2 k hlt hne)⟩
    have := (hold k e.symm).2.1
    omega
  · rw [if_neg ?_]
    · exact hmb.2.2.2
    · intro e
      rcases hloc with e2 | e2
      · have := (hold g e2).1; rw [← e, hmb.2.2.2] at this; cases this
      · omega
  · exact (h.map.same (same mb hml (fun e => by rw [e, hp] at hmb; simp at hmb) (fun e => by have := (hold mb e.symm).1; rw [hmb.2.2.2] at this; cases this))).up (by omega)
  · intro p' B hp'
    by_cases hpp : p' = p
    · subst hpp
      rw [hp, Option.some.injEq] at hp'
      subst hp'
      refine ⟨p1, p2, by rw [if_neg (fun e => hgp e.symm)]; exact p3, p4, p5, .slice (some ⟨g, 0, none⟩) (l.length + 1) cap, l ++ [(c, q)], ?_, ?_, ?_, ?_, ?_⟩
      · have e := (hsame2 p' hpl hpo).trans s1
        have hl2 : p' < w2.heap.size := (Array.getElem?_eq_some_iff.1 e).1
        have he : w2.heap[p'] = Obj.cells (stopV A vw) 102 (0, 0) := by rw [Array.getElem?_eq_getElem hl2] at e; exact Option.some.inj e
        rw [← stopV_set A vw]
        simp [World.setCell, Array.getElem_modify, hl2, he]
      · rw [List.length_append]
        exact owns_kept hown (fun d hd => hset d (by simp only [Value.ownBlock, Option.some.injEq] at hd; omega))
      · rw [List.length_append]
        simp
        omega
      · intro c' q' hc
        rcases List.mem_append.1 hc with hc | hc
        · exact s4 c' q' hc
        · simp only [List.mem_singleton, Prod.mk.injEq] at hc
          rw [hc.1, hc.2]
          exact ⟨hq, hq0⟩
      · intro d hd
        simp only [Value.ownBlock, Option.some.injEq] at hd
        exact if_pos hd.symm
    · have hlt := h.lt hp'
      obtain ⟨h1, h2, h3, h4, h5, vw', l', t1, t2, t3, t4, t5⟩ := h.stops p' B hp'
      have hpg : p' ≠ g := fun e => by rw [e, hg1.2.2] at hp'; cases hp'
      refine ⟨h1, h2, by rw [if_neg hpg]; exact h3, h4, h5, vw', l', (same p' hlt hpp (fun e => ?_)).trans t1, owns_kept t2 (fun d hd => same d (t2.lt d hd).2 (fun e => ?_) (fun e => ?_)), by omega, t4, fun d hd => ?_⟩
      · have := (hold p' e.symm).1; rw [h3] at this; cases this
      · have := t5 d hd; rw [e, p3] at this; cases this
      · have := (hold d e.symm).1; rw [t5 d hd] at this; exact hpp (Option.some.inj this)
      · exact (if_neg (hog d p' (t5 d hd) hpp)).trans (t5 d hd)
  · intro g' p' hg'
    by_cases e : g' = g
    · rw [e]
      exact ⟨hg1.1, hg1.2.1, hg1.2.2, by simpa [World.setCell] using hgl⟩
    · rw [if_neg e] at hg'
      obtain ⟨h1, h2, h3, h4⟩ := h.ways g' p' hg'
      exact ⟨h1, h2, h3, by have : g' < w2.heap.size := (by omega); simpa [World.setCell] using this⟩
end

end Ex
end Go.Proofs.YtfajoknacfjedaaGreatDoor
namespace Go.Proofs.YtfajoknacfjedaaGreatDoor
open Go.RowKit Go.Maps
attribute [local go_sem] Oper.semAt_some
namespace Ex

/-- The run's model: A: the set, k: how many bytes were read, l: the longest so far. -/
def runG (ts : List (Int × Int × Nat)) (fs : List (Nat × Nat)) (bs : List Int) : Nat → Nat → Nat → Int → Int × Int
  | 0, _, k, l => (l, k)
  | N + 1, A, k, l => match bs[k]? with
    | none => (if A.testBit 4096 then (k : Int) else l, k)
    | some c => if stepM ts fs A c = 0 then (if A.testBit 4096 then (k : Int) else l, k) else runG ts fs bs N (stepM ts fs A c) (k + 1) (if A.testBit 4096 then (k : Int) else l)
def runM (ts : List (Int × Int × Nat)) (fs : List (Nat × Nat)) (first : Nat) (bs : List Int) : Int × Int := runG ts fs bs (bs.length + 1) (reachM fs first) 0 (-1)

theorem cast_beq (a b : Nat) : (((a : Nat) : Int) == ((b : Nat) : Int)) = (a == b) := by rw [Bool.eq_iff_iff]; simp only [beq_iff_eq]; omega
theorem eq_items (A B d : Nat) (w : World) : ∀ (is : List Nat), (∀ i ∈ is, i < 65) → (Op.eqItems (d + 1) 83 1 (setV A) (setV B) is).run Tryz.prog w = .ok (is.all fun i => wordAt A i == wordAt B i) w
  | [], _ => by simp [Op.eqItems]
  | i :: is, h => by
    obtain ⟨i0, h0, h1⟩ := Option.map_eq_some_iff.1 word_size
    have hA := setV_at A (h i List.mem_cons_self)
    have hB := setV_at B (h i List.mem_cons_self)
    have hp : ∀ C : Nat, (setV C)[i]? = some (.int .u64 (wordAt C i : Nat)) → (part 83 (setV C) (i * 1)).run Tryz.prog w = .ok (.int .u64 (wordAt C i : Nat)) w := fun C hC => by simp [part, typeInfo, h0, h1, hC, sizeOf, go_sem]
    have he : (Op.equalIn (d + 1) 83 (.int .u64 (wordAt A i : Nat)) (.int .u64 (wordAt B i : Nat))).run Tryz.prog w = .ok (wordAt A i == wordAt B i) w := by
      rw [run_equalIn_int w d 83 .u64 .u64 _ _ Tryz.underlying83]
      rw [cast_beq]
    have ih := eq_items A B d w is (fun j hj => h j (List.mem_cons_of_mem _ hj))
    simp only [Op.eqItems, Sem.run_bind, hp A hA, hp B hB, he, Result.andThen_ok]
    cases hw : (wordAt A i == wordAt B i)
    · simp [hw]
    · simp [hw, ih]
theorem set_zero {A : Nat} (h : A < top) : ((List.range 65).all fun i => wordAt A i == wordAt 0 i) = decide (A = 0) := by
  rw [Bool.eq_iff_iff]
  simp only [List.all_eq_true, List.mem_range, beq_iff_eq, decide_eq_true_eq]
  constructor
  · intro h1
    exact set_ext h top_zero h1
  · intro h1 i _
    rw [h1]
theorem set_eql {A : Nat} (h : A < top) (w : World) : (Op.equalIn 10000 98 (.agg (setV A)) (.agg (setV 0))).run Tryz.prog w = .ok (decide (A = 0)) w := by
  obtain ⟨i0, h0, _⟩ := Option.map_eq_some_iff.1 word_size
  rw [run_equalIn_array w 9999 (setV A) (setV 0) Tryz.underlying98 h0, word_cells, eq_items A 0 9998 w _ (fun i hi => List.mem_range.1 hi), set_zero h]

/-- All places that the net leads to are takers, or the end. -/
def NetOk (ts : List (Int × Int × Nat)) (fs : List (Nat × Nat)) (first : Nat) : Prop := PlacesOk (reachM fs first) ts.length ∧ ∀ t ∈ ts, PlacesOk (reachM fs t.2.2) ts.length
theorem places_or {A B n : Nat} (hA : PlacesOk A n) (hB : PlacesOk B n) : PlacesOk (A ||| B) n := fun p hp => by
  rw [Nat.testBit_or, Bool.or_eq_true] at hp
  rcases hp with hp | hp
  · exact hA p hp
  · exact hB p hp
theorem places_zero (n : Nat) : PlacesOk 0 n := fun p hp => by simp at hp
theorem NetOk.step {ts : List (Int × Int × Nat)} {fs : List (Nat × Nat)} {first : Nat} (h : NetOk ts fs first) (A : Nat) (c : Int) : PlacesOk (stepM ts fs A c) ts.length := by
  have ht : ∀ i, PlacesOk (takeM ts fs i c) ts.length := fun i => by
    unfold takeM
    split
    · rename_i t ht
      split
      · exact places_zero _
      · exact h.2 t (List.mem_of_getElem? ht)
    · exact places_zero _
  have hw : ∀ k x p, PlacesOk (wordTo ts fs c k x p) ts.length := fun k x p => by
    induction p with
    | zero => exact places_zero _
    | succ p ih =>
      rw [wordTo]
      refine places_or ih ?_
      split
      · exact ht _
      · exact places_zero _
  have hl : ∀ (l : List (Nat × Nat)) (B : Nat), PlacesOk B ts.length → PlacesOk (l.foldl (fun B d => B ||| wordTo ts fs c d.1 d.2 64) B) ts.length := by
    intro l
    induction l with
    | nil => intro B hB; exact hB
    | cons d l ih => intro B hB; exact ih _ (places_or hB (hw _ _ _))
  exact hl _ 0 (places_zero _)
/-- Bytes that a run reads. -/
def BytesIn (S : Nat → Prop) (w : World) (v : Value) (bs : List Int) : Prop :=
  ∃ a cap, v = .slice a bs.length cap ∧ bs.length ≤ cap ∧ bs.length ≤ 262144 ∧ (bs = [] ∨ ∃ c o, a = some ⟨c, o, none⟩ ∧ S c ∧ ∀ (i : Nat) (x : Int), bs[i]? = some x → w.cell? ⟨c, o + i, none⟩ = some (.int .u8 x))
def nthV : List Value → Nat → Value
  | [], _ => undef
  | v :: _, 0 => v
  | _ :: t, k + 1 => nthV t k
/-- The frame at the label. -/
def RunFr (nb mb p : Nat) (vb : Value) (l k : Int) (a : Act) : Prop := ∃ T : Nat → Value, a = { tmps := #[.pointer (some ⟨nb, 0, none⟩), vb, T 2, T 3, .int .i64 l, .int .i64 k, .map (some mb), .pointer (some ⟨p, 0, none⟩), T 8, T 9, T 10, T 11, T 12, T 13, T 14, T 15, T 16, T 17, T 18, T 19, T 20, T 21, T 22, T 23, T 24, T 25, T 26, T 27, T 28, T 29, T 30, T 31, T 32, T 33, T 34, T 35, T 36, T 37, T 38, T 39, T 40, T 41, T 42, T 43, T 44, T 45, T 46, T 47, T 48, T 49, T 50, T 51, T 52, T 53, T 54, T 55, T 56, T 57, T 58, T 59, T 60, T 61, T 62, T 63, T 64, T 65, T 66, T 67, T 68, T 69, T 70, T 71, T 72, T 73, T 74, T 75, T 76, T 77, T 78, T 79, T 80, T 81, T 82, T 83, T 84, T 85, T 86, T 87, T 88, T 89], defers := [] }
theorem runFr_of {nb mb p : Nat} {vb : Value} {l k : Int} (L : List Value) (h : L = [.pointer (some ⟨nb, 0, none⟩), vb, nthV L 2, nthV L 3, .int .i64 l, .int .i64 k, .map (some mb), .pointer (some ⟨p, 0, none⟩), nthV L 8, nthV L 9, nthV L 10, nthV L 11, nthV L 12, nthV L 13, nthV L 14, nthV L 15, nthV L 16, nthV L 17, nthV L 18, nthV L 19, nthV L 20, nthV L 21, nthV L 22, nthV L 23, nthV L 24, nthV L 25, nthV L 26, nthV L 27, nthV L 28, nthV L 29, nthV L 30, nthV L 31, nthV L 32, nthV L 33, nthV L 34, nthV L 35, nthV L 36, nthV L 37, nthV L 38, nthV L 39, nthV L 40, nthV L 41, nthV L 42, nthV L 43, nthV L 44, nthV L 45, nthV L 46, nthV L 47, nthV L 48, nthV L 49, nthV L 50, nthV L 51, nthV L 52, nthV L 53, nthV L 54, nthV L 55, nthV L 56, nthV L 57, nthV L 58, nthV L 59, nthV L 60, nthV L 61, nthV L 62, nthV L 63, nthV L 64, nthV L 65, nthV L 66, nthV L 67, nthV L 68, nthV L 69, nthV L 70, nthV L 71, nthV L 72, nthV L 73, nthV L 74, nthV L 75, nthV L 76, nthV L 77, nthV L 78, nthV L 79, nthV L 80, nthV L 81, nthV L 82, nthV L 83, nthV L 84, nthV L 85, nthV L 86, nthV L 87, nthV L 88, nthV L 89]) :
    RunFr nb mb p vb l k { tmps := L.toArray, defers := [] } := ⟨nthV L, by rw [← h]⟩
/-- The frame behind a step. -/
def RunFrT (nb mb p bt : Nat) (vb : Value) (l k : Int) (a : Act) : Prop := ∃ T : Nat → Value, a = { tmps := #[.pointer (some ⟨nb, 0, none⟩), vb, T 2, T 3, .int .i64 l, .int .i64 k, .map (some mb), .pointer (some ⟨p, 0, none⟩), T 8, T 9, .pointer (some ⟨bt, 0, none⟩), T 11, T 12, T 13, T 14, T 15, T 16, T 17, T 18, T 19, T 20, T 21, T 22, T 23, T 24, T 25, T 26, T 27, T 28, T 29, T 30, T 31, T 32, T 33, T 34, T 35, T 36, T 37, T 38, T 39, T 40, T 41, T 42, T 43, T 44, T 45, T 46, T 47, T 48, T 49, T 50, T 51, T 52, T 53, T 54, T 55, T 56, T 57, T 58, T 59, T 60, T 61, T 62, T 63, T 64, T 65, T 66, T 67, T 68, T 69, T 70, T 71, T 72, T 73, T 74, T 75, T 76, T 77, T 78, T 79, T 80, T 81, T 82, T 83, T 84, T 85, T 86, T 87, T 88, T 89], defers := [] }
theorem runFrT_of {nb mb p bt : Nat} {vb : Value} {l k : Int} (L : List Value) (h : L = [.pointer (some ⟨nb, 0, none⟩), vb, nthV L 2, nthV L 3, .int .i64 l, .int .i64 k, .map (some mb), .pointer (some ⟨p, 0, none⟩), nthV L 8, nthV L 9, .pointer (some ⟨bt, 0, none⟩), nthV L 11, nthV L 12, nthV L 13, nthV L 14, nthV L 15, nthV L 16, nthV L 17, nthV L 18, nthV L 19, nthV L 20, nthV L 21, nthV L 22, nthV L 23, nthV L 24, nthV L 25, nthV L 26, nthV L 27, nthV L 28, nthV L 29, nthV L 30, nthV L 31, nthV L 32, nthV L 33, nthV L 34, nthV L 35, nthV L 36, nthV L 37, nthV L 38, nthV L 39, nthV L 40, nthV L 41, nthV L 42, nthV L 43, nthV L 44, nthV L 45, nthV L 46, nthV L 47, nthV L 48, nthV L 49, nthV L 50, nthV L 51, nthV L 52, nthV L 53, nthV L 54, nthV L 55, nthV L 56, nthV L 57, nthV L 58, nthV L 59, nthV L 60, nthV L 61, nthV L 62, nthV L 63, nthV L 64, nthV L 65, nthV L 66, nthV L 67, nthV L 68, nthV L 69, nthV L 70, nthV L 71, nthV L 72, nthV L 73, nthV L 74, nthV L 75, nthV L 76, nthV L 77, nthV L 78, nthV L 79, nthV L 80, nthV L 81, nthV L 82, nthV L 83, nthV L 84, nthV L 85, nthV L 86, nthV L 87, nthV L 88, nthV L 89]) :
    RunFrT nb mb p bt vb l k { tmps := L.toArray, defers := [] } := ⟨nthV L, by rw [← h]⟩
/-- What holds at the label. -/
def RunJ (ts : List (Int × Int × Nat)) (fs : List (Nat × Nat)) (nb tb fb first mb : Nat) (w0 : World) (vb : Value) (bs : List Int) (a : Act) (w : World) : Prop :=
  ∃ (A k p M : Nat) (l : Int) (κ ω : Nat → Option Nat) (S : Nat → Prop) (D : DataW Unit), RunFr nb mb p vb l (k : Int) a ∧ k ≤ bs.length ∧ M ≤ 2 * k + 2 ∧ κ p = some A ∧ RunSt ts fs nb tb fb first mb M w0 κ ω S D w ∧ ∀ N, runG ts fs bs (k + N) (reachM fs first) 0 (-1) = runG ts fs bs N A k l
theorem wp_scope_once {P : Program} {a : Act} {w : World} {Q : Exit → Act → World → Prop} {c rest : Code} (l : Nat) (J : Act → World → Prop) (μ : Act → World → Nat) (hf : findLabel c l = some (Code.seq .skip rest))
    (pass : ∀ a w, J a w → rest.wp P (Exit.jump l (fun a' w' => J a' w' ∧ μ a' w' < μ a w) Q) a w)
    (first : (∀ a w, J a w → rest.wp P (Exit.jump l J Q) a w) → c.wp P (Exit.jump l J Q) a w) : (Code.scope c).wp P Q a w :=
  wp_scope_jumps l J μ hf (first (fun a w hJ => Code.wp_mono (fun e a w h => by cases e <;> first | exact h | exact ⟨h.1, h.2.1⟩) (pass a w hJ))) (fun a w hJ => wp_seq (wp_skip (pass a w hJ)))
theorem has_end (A : Nat) (w : World) : Calls Tryz.prog 66 #[.agg (setV A), .int .i64 4096] w fun e w' => e = .returned (.bool (A.testBit 4096)) ∧ Kept w w' := has_is A 4096 (by decide) w
theorem stop_range {ts : List (Int × Int × Nat)} {fs : List (Nat × Nat)} {B M : Nat} {κ ω : Nat → Option Nat} {w : World} {p A : Nat} {vw : Value} {l : List (Int × Nat)} (h : StopAt ts fs B M κ ω w p A vw l) : w.rangeAt p 0 (setL A) ∧ w.cell? ⟨p, 65, none⟩ = some vw ∧ w.frozen? ⟨p, 65, none⟩ = false := by
  have hs := h.1
  refine ⟨fun j v hj => ?_, ?_, ?_⟩
  · rw [cell_of_row w p (0 + j) _ _ _ hs, Nat.zero_add]
    have hl : j < 65 := by have := (List.getElem?_eq_some_iff.1 hj).1; rwa [setL_len] at this
    unfold stopV
    rw [Array.getElem?_push, setV_size, if_neg (by omega)]
    simpa [setV] using hj
  · rw [cell_of_row w p 65 _ _ _ hs]
    unfold stopV
    have := Array.getElem?_push_size (xs := setV A) (x := vw)
    rwa [setV_size] at this
  · simp [World.frozen?, hs]
theorem set_size65 (A : Nat) : (setL A).toArray.size = 65 := setV_size A
theorem setL_size (A : Nat) : (Tryz.prog.info? 98).map (·.size) = some (setL A).length := by rw [setL_len]; kernel_rfl

section
variable {ts : List (Int × Int × Nat)} {fs : List (Nat × Nat)} {nb tb fb first mb M : Nat} {w0 w w' : World} {κ ω : Nat → Option Nat} {S : Nat → Prop} {D : DataW Unit}
theorem StopAt.keep {B p A : Nat} {vw : Value} {l : List (Int × Nat)} (h : StopAt ts fs B M κ ω w p A vw l) (hk : Kept w w') : StopAt ts fs B M κ ω w' p A vw l :=
  ⟨(hk.2.2.2.2 p (Array.getElem?_eq_some_iff.1 h.1).1).trans h.1, owns_kept h.2.1 (fun g hg => hk.2.2.2.2 g (h.2.1.lt g hg).2), h.2.2⟩
/-- A block of nobody's is written. -/
theorem RunSt.but (h : RunSt ts fs nb tb fb first mb M w0 κ ω S D w) (hF : RunF fs nb tb fb w0) {b : Nat} (hk : KeptBut b w w') (hb : w0.heap.size ≤ b) (hS : ¬ S b) (hκ : κ b = none) (hω : ω b = none) (hm : b ≠ mb) : RunSt ts fs nb tb fb first mb M w0 κ ω S D w' := by
  have htb := hF.htb
  have hnb := hF.hnb
  have htab := hF.htab
  have hsz := hk.2.2.2.1
  refine ⟨h.net.but hk (by omega) (by omega) (hF.hfb.imp id (fun e => by omega)) hS, ?_, h.tab.but hk (by omega), h.mbl, h.map.but hk (Ne.symm hm), h.isMap, h.mapOk, fun p A hp => ?_, fun g p hg => ?_⟩
  · have h5 := h.kept
    exact ⟨hk.1.trans h5.1, hk.2.1.trans h5.2.1, hk.2.2.1.trans h5.2.2.1, Nat.le_trans h5.2.2.2.1 hsz, fun k hlt hne => (hk.2.2.2.2 k (Nat.lt_of_lt_of_le hlt h5.2.2.2.1) (by omega)).trans (h5.2.2.2.2 k hlt hne)⟩
  · have hlt := h.lt hp
    obtain ⟨h1, h2, h3, h4, h5, vw, l, s1, s2, s3, s4, s5⟩ := h.stops p A hp
    exact ⟨h1, h2, h3, h4, h5, vw, l, (hk.2.2.2.2 p hlt (fun e => by rw [e, hκ] at hp; cases hp)).trans s1, owns_kept s2 (fun g hg => hk.2.2.2.2 g (s2.lt g hg).2 (fun e => by have := s5 g hg; rw [e, hω] at this; cases this)), s3, s4, s5⟩
  · obtain ⟨h1, h2, h3, h4⟩ := h.ways g p hg
    exact ⟨h1, h2, h3, by omega⟩
/-- The stop of a set. -/
theorem RunSt.stopOf (h : RunSt ts fs nb tb fb first mb M w0 κ ω S D w) (hF : RunF fs nb tb fb w0) {A : Nat} (hA : A < top) (hP : PlacesOk A ts.length) {e : Ending}
    (hv : (∃ b : Nat, e = .returned (.pointer (some ⟨b, 0, none⟩)) ∧ D.atKey (keyL A) noStop = .lit (.int .i64 (b : Int)) ∧ Kept w w') ∨
      (∃ (q : Nat) (D' : DataW Unit), e = .returned (.pointer (some ⟨q, 0, none⟩)) ∧ w.heap.size ≤ q ∧ w'.heap[q]? = some (.cells (stopV A (.slice none 0 0)) 102 (0, 0)) ∧ (D' = D ∨ D' = .map []) ∧ MapAt w' mb (M + 1) (D'.put (keyL A) (.lit (.int .i64 (q : Int)))) ∧ KeptBut mb w w')) :
    ∃ (q : Nat) (κ' : Nat → Option Nat) (D' : DataW Unit), e = .returned (.pointer (some ⟨q, 0, none⟩)) ∧ RunSt ts fs nb tb fb first mb (M + 1) w0 κ' ω S D' w' ∧ κ' q = some A ∧ ∀ x X, κ x = some X → κ' x = some X := by
  rcases hv with ⟨b, he, hat, hk⟩ | ⟨q, D', he, hq, hs, hD, hm, hk⟩
  · rcases h.mapOk A _ hA hat with e1 | ⟨q, e1, e2⟩
    · omega
    · refine ⟨b, κ, D, he, (h.keep hk).more (by omega), ?_, fun _ _ h => h⟩
      rw [show b = q by omega]
      exact e2
  · refine ⟨q, _, _, he, h.made hF hq hs hD hm hk hA hP, if_pos rfl, fun x X hx => ?_⟩
    have := h.lt hx
    exact (if_neg (by omega)).trans hx
theorem range_but {b p : Nat} {cs : List Value} (h : w.rangeAt p 0 cs) (hk : KeptBut b w w') (hb : p ≠ b) : w'.rangeAt p 0 cs := fun j v hj => but_cell hk (h j v hj) hb
theorem range_keep {p : Nat} {cs : List Value} (h : w.rangeAt p 0 cs) (hk : Kept w w') : w'.rangeAt p 0 cs := fun j v hj => grown_cell hk (h j v hj)
end
theorem set_eql2 {A : Nat} (h : A < top) (w : World) : (Op.equalIn 10000 98 (.agg (setL A).toArray) (.agg Tryz.zeroCells98)).run Tryz.prog w = .ok (decide (A = 0)) w := by
  rw [zero_set]
  exact set_eql h w
theorem way_info : (Tryz.prog.info? 105).map (fun i => (i.zero, i.size, i.bytes)) = some (some (.agg #[.int .u8 0, .pointer none]), 2, 16) := by kernel_rfl
theorem step_way {ops : Array Oper} {o : Oper} {a : Act} {K : Act → World → Prop} {Q : Exit → Act → World → Prop} {E : Prop} (hgd : o.guard = none) (s x : Operand)
    (ho : o.op = .call { callee := .builtin .append, args := #[s, x], argTypes := #[100, 100] }) (W : World) (base : Nat) (v : Value) (l : List (Int × Nat)) (n : Nat) (hn : l.length = n) (hs : a.eval s = v) (hown : W.ownsRow base 105 2 v l.length (wayC l))
    (lb q : Nat) (c : Int) (hx : a.eval x = .slice (some ⟨lb, 0, none⟩) 1 1) (hc0 : W.cell? ⟨lb, 0, none⟩ = some (.int .u8 c)) (hc1 : W.cell? ⟨lb, 1, none⟩ = some (.pointer (some ⟨q, 0, none⟩))) (hl : n ≤ 1000000) (hbase : base ≤ W.heap.size)
    (h : ∀ g cap w', w'.ownsRow base 105 2 (.slice (some ⟨g, 0, none⟩) (n + 1) cap) (n + 1) (wayC (l ++ [(c, q)])) → W.grownBy w' v.ownBlock → (v.ownBlock = some g ∨ g = W.heap.size) → K (a.put o.dst (.slice (some ⟨g, 0, none⟩) (n + 1) cap)) w') :
    if Region.wanted o (yielded ops a.tmps) = true then Oper.wp Tryz.prog o a W K Q else E := by
  obtain ⟨i0, hi, hz0, hz1, hz2⟩ := info_of way_info
  subst hn
  refine step_append_lies W hgd s x 100 ho base 105 i0 _ 2 16 Tryz.underlying100 hi hz0 hz1 hz2 rfl (by decide) v l.length (wayC l) hs hown ⟨lb, 0, none⟩ 1 1 [.int .u8 c, .pointer (some ⟨q, 0, none⟩)] hx rfl ?_ ?_ (by decide) (by unfold maxLen; omega) (by omega) hbase W.heap.size rfl ?_
  · intro j y hj
    have hj6 : j < 2 := (List.getElem?_eq_some_iff.1 hj).1
    match j, hj6 with
    | 0, _ => exact hc0.trans hj
    | 1, _ => exact hc1.trans hj
  · intro y hy
    simp only [List.mem_cons, List.not_mem_nil, or_false] at hy
    rcases hy with rfl | rfl <;> rfl
  · intro g cap w' h3 h4 h5 h6
    exact h g cap w' (by rw [wayC_snoc]; exact h3) h4 h5
theorem way_cell {W w9 : World} {o : Obj} {row : Option Nat} {b i : Nat} {v : Value} (hg : (W.alloc o).drew.grownBy w9 row) (h : W.cell? ⟨b, i, none⟩ = some v) (hb : some b ≠ row) : w9.cell? ⟨b, i, none⟩ = some v := by
  have hl := World.block_lt_of_cell? W _ h
  exact (World.cell?_of_block (w := W) (a := ⟨b, i, none⟩) ((hg.block b (by show b < (W.alloc o).heap.size; simp; exact Nat.lt_succ_of_lt hl) hb).trans (heap_alloc_old W o hl))).trans h
theorem way_frozen {W w9 : World} {o : Obj} {row : Option Nat} {b i : Nat} (hg : (W.alloc o).drew.grownBy w9 row) (hl : b < W.heap.size) (h : W.frozen? ⟨b, i, none⟩ = false) (hb : some b ≠ row) : w9.frozen? ⟨b, i, none⟩ = false :=
  (World.frozen?_of_block (w := W) (a := ⟨b, i, none⟩) ((hg.block b (by show b < (W.alloc o).heap.size; simp; exact Nat.lt_succ_of_lt hl) hb).trans (heap_alloc_old W o hl))).trans h
theorem step_list (S : Nat → Prop) (nb tb fb first : Nat) (ts : List (Int × Int × Nat)) (fs : List (Nat × Nat)) (A : Nat) (c : Int) (w : World) (h : NetRun S w nb tb fb first ts fs) (hT : TabAt w) (htg : tb ≠ 1) (hA : PlacesOk A ts.length) :
    Calls Tryz.prog 67 #[.pointer (some ⟨nb, 0, none⟩), .agg (setL A).toArray, .int .u8 c] w fun e w' => e = .returned (.agg (setL (stepM ts fs A c)).toArray) ∧ NetRun (SNew S w w') w' nb tb fb first ts fs ∧ KeptBut tb w w' := step_is S nb tb fb first ts fs A c w h hT htg hA
theorem zeros_there (W : World) : (W.alloc (.cells Tryz.zeroCells98 98)).there W.heap.size 0 65 := by
  have hb := heap_alloc_new W (.cells Tryz.zeroCells98 98)
  rw [zero_set] at hb ⊢
  intro j hj
  refine ⟨?_, frozen_of_row _ _ _ _ _ hb⟩
  rw [cell_of_row _ _ _ _ _ _ hb, Nat.zero_add, setV_at 0 hj]
  rfl
theorem there_but {w w' : World} {b p n : Nat} (h : w.there p 0 n) (hk : KeptBut b w w') (hl : p < w.heap.size) (hb : p ≠ b) : w'.there p 0 n := fun j hj => by
  have e := hk.2.2.2.2 p hl hb
  rw [World.cell?_of_block (w := w) (a := ⟨p, 0 + j, none⟩) e, World.frozen?_of_block (w := w) (a := ⟨p, 0 + j, none⟩) e]
  exact h j hj
theorem setCells_but (b : Nat) : ∀ (vs : List Value) (o : Nat) (w : World), KeptBut b w (w.setCells b o vs)
  | [], _, w => (Kept.refl w).but b
  | v :: vs, o, w => (setCell_but w b o v).trans (setCells_but b vs (o + 1) (w.setCell ⟨b, o, none⟩ v))

theorem kept_setCells (w : World) (o : Obj) (vs : List Value) : Kept w ((w.alloc o).setCells w.heap.size 0 vs) := KeptBut.up (Kept.of ((Below.refl _ _).alloc (Nat.le_refl _) _)) (Nat.le_refl _) (setCells_but _ _ _ _)
section
variable {ts : List (Int × Int × Nat)} {fs : List (Nat × Nat)} {nb tb fb first mb M : Nat} {w0 w w' : World} {κ ω : Nat → Option Nat} {S : Nat → Prop} {D : DataW Unit}
/-- The step's set is put into a variable that was made behind the call, or ahead of it. -/
theorem RunSt.after (h : RunSt ts fs nb tb fb first mb M w0 κ ω S D w) (hF : RunF fs nb tb fb w0) (hn : NetRun (SNew S w.drew w') w' nb tb fb first ts fs) (hk : KeptBut tb w.drew w') (o : Obj) (vs : List Value) : RunSt ts fs nb tb fb first mb M w0 κ ω (SNew S w.drew w') D ((w'.alloc o).setCells w'.heap.size 0 vs) :=
  ((h.keep (drew_kept w)).step hF hn hk).keep (kept_setCells w' o vs)
theorem RunSt.ahead (h : RunSt ts fs nb tb fb first mb M w0 κ ω S D w) (hF : RunF fs nb tb fb w0) {o : Obj} (hn : NetRun (SNew S (w.alloc o).drew w') w' nb tb fb first ts fs) (hk : KeptBut tb (w.alloc o).drew w') (vs : List Value) : RunSt ts fs nb tb fb first mb M w0 κ ω (SNew S (w.alloc o).drew w') D (w'.setCells w.heap.size 0 vs) := by
  have hkw : Kept w (w.alloc o).drew := gtrans (Kept.of ((Below.refl _ _).alloc (Nat.le_refl _) _)) (drew_kept _)
  have hw0 := h.kept.2.2.2.1
  have hm := h.map.lt
  have hsz : (w.alloc o).drew.heap.size = w.heap.size + 1 := by show (w.alloc o).heap.size = _; simp
  refine ((h.keep hkw).step hF hn hk).but hF (setCells_but _ _ _ _) hw0 (fun e => ?_) ?_ ?_ (by omega)
  · rcases e with e | e
    · exact Nat.lt_irrefl _ (h.net.apart.2.2 _ e)
    · omega
  · cases hc : κ w.heap.size with
    | none => rfl
    | some A => exact absurd (h.lt hc) (Nat.lt_irrefl _)
  · cases hc : ω w.heap.size with
    | none => rfl
    | some p => exact absurd (h.ways _ p hc).2.2.2 (Nat.lt_irrefl _)
end

end Ex
end Go.Proofs.YtfajoknacfjedaaGreatDoor
