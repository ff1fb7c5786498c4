import Derived.Test.YtooelfjceehmmaaDoorMSpSpec
import Derived.Test.YtooelfjceehmmaaDoorMSpHw
import Derived.Test.YtooelfjceehmmaaDoorCards
import Derived.Test.YtooelfjceehmmaaDoorTie
import Derived.WalkKit
import Derived.ShutString
import Derived.ChangeOld
import Derived.Below
namespace Go.Proofs.YtooelfjceehmmaaDoor
open Go.ChangeShapes Go.WideShapes Go.ChangeAt Go.RowKit
set_option linter.unusedVariables false
namespace Ex

/-- An argument that is one spec. -/
theorem spec_arg {H : Type} {enc : TypeId × Value → H} {W : World} {v : Value} {d : DataW H} {p : List MemPlace} (hv : ∃ cs, v = .agg cs ∧ cs.size = Tryd.prog.cellsOf 26) (h : DataW.Trod enc Tryd.prog W 0 (fun _ => true) true 26 v d p) (hz : ∀ n ∈ d.weights Tryd.prog 26, n ≤ reachBytes) : ∃ k cs sp, v = .agg cs ∧ SpecSz W k cs.toList sp := by
  obtain ⟨cs, rfl, hcs⟩ := hv
  rw [spec_size] at hcs
  obtain ⟨fuel, hf⟩ := h
  obtain ⟨sp, hsp⟩ := spec_sz (k := fuel) (Nat.le_refl _) (cs := cs.toList) (by rw [Array.length_toList]; exact hcs) hf hz
  exact ⟨fuel, cs, sp, rfl, hsp⟩
theorem ask_size : Tryd.prog.cellsOf 56 = 2 := by kernel_rfl
theorem ask_bytes : Tryd.prog.bytesOf 56 = 48 := by kernel_rfl
theorem ints_size : Tryd.prog.cellsOf 41 = 1 := by kernel_rfl
theorem int_bytesH : Tryd.prog.bytesOf 3 = 8 := by kernel_rfl
section
variable {H : Type} {enc : TypeId × Value → H}
set_option maxRecDepth 100000 in
theorem ints_szH {W : World} {fuel : Nat} {v : Value} {y : DataW H × List MemPlace} (h : DataW.trod enc Tryd.prog W 0 (fun _ => true) true fuel 41 [v] = some y) (hz : ∀ n ∈ y.1.weights Tryd.prog 41, n ≤ reachBytes) : ∃ r, IntsR W v r ∧ r.length * 8 ≤ 140737488351232 :=
  slice_sized (0 : Int) Tryd.underlying41 1 8 int_size (by decide) int_bytesH (by decide) (fun cs x => cs = [.int .i64 x]) h hz (fun _ _ _ _ hl hh _ => by
    obtain ⟨v, rfl⟩ := one_l hl
    obtain ⟨z, e, _, _⟩ := DataW.trod_int Tryd.underlying3 hh
    exact ⟨z, e⟩)
set_option maxRecDepth 100000 in
theorem ask_sz {W : World} {fuel : Nat} {cs : List Value} {y : DataW H × List MemPlace} (hl : cs.length = 2) (h : DataW.trod enc Tryd.prog W 0 (fun _ => true) true fuel 56 cs = some y) (hz : ∀ n ∈ y.1.weights Tryd.prog 56, n ≤ reachBytes) : ∃ p, AskEl W cs p := by
  obtain ⟨xs, n', hn', hx1, _, hx3, hx4⟩ := DataW.trod_struct Tryd.underlying56 h
  obtain ⟨v0, v1, rfl⟩ := two_l hl
  obtain ⟨y0, y1, rfl⟩ := two_l hx3
  have f0 : DataW.trod enc Tryd.prog W 0 (fun _ => true) true n' 38 [v0] = some y0 := by have := hx4 0 _ rfl; simpa [syms_size] using this
  have f1 : DataW.trod enc Tryd.prog W 0 (fun _ => true) true n' 41 [v1] = some y1 := by have := hx4 1 _ rfl; simpa [ints_size] using this
  subst hx1
  obtain ⟨r0, h0, s0⟩ := right_sz f0 (fun n hn => hz n (weights_agg Tryd.underlying56 _ 0 _ y0.1 rfl rfl n hn))
  obtain ⟨r1, h1, s1⟩ := ints_szH f1 (fun n hn => hz n (weights_agg Tryd.underlying56 _ 1 _ y1.1 rfl rfl n hn))
  exact ⟨(r0, r1), v0, v1, rfl, h0, h1, s0, s1⟩
set_option maxRecDepth 100000 in
/-- An argument that is a list of asks. -/
theorem asks_arg {W : World} {a : Option Addr} {len cap : Nat} {d : DataW H} {p : List MemPlace} (h : DataW.Trod enc Tryd.prog W 0 (fun _ => true) true 54 (.slice a len cap) d p) (hz : ∀ n ∈ d.weights Tryd.prog 54, n ≤ reachBytes) : ∃ l, AsksAt W (.slice a len cap) l := by
  obtain ⟨fuel, hf⟩ := h
  have hf2 : DataW.trod enc Tryd.prog W 0 (fun _ => true) true fuel 54 [.slice a len cap] = some (d, p) := hf
  exact slice_gen ([], []) Tryd.underlying54 2 48 ask_size (by decide) ask_bytes (by decide) (AskEl W) hf2 hz (fun _ _ _ _ hl hh hz2 => ask_sz hl hh hz2)
end
theorem walk (k : Nat) (cs : Array Value) (sp : SpecM k) (a2 : Option Addr) (n2 c2 : Nat) (asks : List AskM) (w : World) (hs : SpecSz w k cs.toList sp) (ha : AsksAt w (.slice a2 n2 c2) asks) (hT : ∀ j, j < 64 → w.cell? ⟨0, j, none⟩ = some (.int .u8 (Lib.deBruijn64tab.getD j 0 : Nat))) :
    Calls Tryd.prog 4 #[.agg cs, .slice a2 n2 c2] w fun e w' => e = .returned (.bool true) ∧ Below w.heap.size w w' := by
  obtain ⟨⟨vl, vn, vp, hcs, hl, hn, hp⟩, hz⟩ := hs
  obtain ⟨lex, names, st, ps⟩ := sp
  have ecs : cs = #[vl, vn, .int .i64 st, vp] := by cases cs; simp_all
  subst ecs
  obtain ⟨al, cl, rfl, _⟩ := SliceOf.len hl
  obtain ⟨an, cn, rfl, _⟩ := SliceOf.len hn
  obtain ⟨ap, cp, rfl, _⟩ := SliceOf.len hp
  obtain ⟨_, _, e1, _⟩ := SliceOf.len ha
  injection e1 with _ e1 _
  exact (lawHeads k lex names ps asks al an ap a2 lex.length cl names.length cn ps.length cp n2 c2 st w rfl rfl rfl e1.symm hz hl hn hp ha hT).mono fun _ _ h => ⟨h.1, h.2.below⟩

set_option maxRecDepth 100000 in
theorem lifted (os : Os) (started : os.Started) (H : Type) (enc : TypeId × Value → H) :
    ReturnsInHanded {} Tryd.checked os 4 .any (fun w args => (Rows.setsHeadsSpec.pre enc Tryd.prog Tryd.f4 [] false w args ∧ laidMetH Tryd.prog Rows.setsHeadsRow.laid w) ∧ sizedMet enc Tryd.prog Tryd.f4 (OpenSpec.ofChange Rows.setsHeadsSpec) false w args)
      (Rows.setsHeadsSpec.post enc Tryd.prog Tryd.f4 false true false false) := by
  refine returnsInHanded_of_change_and (C := Tryd.checked) (X := fun w _ => laidMetH Tryd.prog Rows.setsHeadsRow.laid w) (fun _ _ _ hh h => h.of_heap hh) own started (by kernel_rfl) Tryd.func4
    (ChangeSpec.witness_shaped (enc := enc) (C := Tryd.checked) (os := os) (X := fun w _ => laidMetH Tryd.prog Rows.setsHeadsRow.laid w) false (World.doorLaid Tryd.prog 4000 os) #[.agg #[.slice none 0 0, .slice none 0 0, .int .i64 0, .slice none 0 0], .slice none 0 0] 8 rfl (World.shaped_of_RefB (by kernel_rfl) (by kernel_rfl)) (by kernel_rfl) (by kernel_rfl) (by kernel_rfl) (show _ from door_met os _)) ?_
  intro W base args ds gs before hval0 hW _ hsz hL _
  have hval : ∀ (j : Nat) t v, Tryd.f4.params[j]? = some t → args[j]? = some v → Value.okWide Tryd.prog W .any base t v := hval0
  have hW' := hW
  obtain ⟨p, q, hA0, hV, rfl, hfz, hnd⟩ := hW
  have hA : DataW.TrodAll enc Tryd.prog W 0 (fun _ => true) true Tryd.f4.params.toList args.toList ds p := hA0
  rw [Tryd.params4] at hA hval
  obtain ⟨v0, vs0, d0, ds0, p0, q0, hargs, rfl, rfl, h0, r0⟩ := trodAll_cons hA
  obtain ⟨v2, vs2, d2, ds2, p2, q2, rfl, rfl, rfl, h2, r2⟩ := trodAll_cons r0
  obtain ⟨rfl, rfl, rfl⟩ := trodAll_nil r2
  obtain rfl : args = #[v0, v2] := by cases args; simp_all
  obtain ⟨rfl, rfl⟩ := trodVars_none hV
  have s0 := okWide_struct Tryd.underlying26 (hval 0 26 v0 rfl rfl)
  obtain ⟨a2, len2, cap2, rfl⟩ := okWide_slice Tryd.underlying54 (hval 1 54 v2 rfl rfl)
  have k0 := h0
  have k2 := h2
  have lt2 : ∀ x ∈ p2, x.block < W.heap.size := by obtain ⟨m, hm⟩ := k2; exact DataW.trod_lt m _ _ _ hm
  have wt2 : ∀ n ∈ d2.weights Tryd.prog 54, n ≤ reachBytes := fun n hn => by
    have := List.all_eq_true.1 hsz n (DataW.weights_mem_each (j := 1) (by rfl) (by rfl) n hn)
    simpa using this
  have lt0 : ∀ x ∈ p0, x.block < W.heap.size := by obtain ⟨m, hm⟩ := k0; exact DataW.trod_lt m _ _ _ hm
  have wt0 : ∀ n ∈ d0.weights Tryd.prog 26, n ≤ reachBytes := fun n hn => by
    have := List.all_eq_true.1 hsz n (DataW.weights_mem_each (j := 0) (by rfl) (by rfl) n hn)
    simpa using this
  obtain ⟨ka, cs0, sp0, e0, x0⟩ := spec_arg s0 k0 wt0
  obtain ⟨asks, x2⟩ := asks_arg k2 wt2
  clear hA0 hval0
  refine Calls.mono (R := fun e w' => e = .returned (.bool true) ∧ Below W.heap.size W w') (by rw [e0]; exact walk ka cs0 sp0 a2 len2 cap2 asks W x0 x2 (of_laid (show laidMetH Tryd.prog Rows.setsHeadsRow.laid W from hL))) fun e W' ⟨he, bel⟩ => ?_
  subst he
  exact ⟨_, rfl, _, _, _, [], _, [], hW', trodAll_mk1 (shut_bool Tryd.underlying4 _), (trodAll_cons_mk (Below.trod laidOut (by kernel_rfl) (of_decide_eq_true (by kernel_rfl)) k0 bel lt0) (trodAll_cons_mk (Below.trod laidOut (by kernel_rfl) (of_decide_eq_true (by kernel_rfl)) k2 bel lt2) trodAll_mk0)), rfl, bel.frame _, fun h => by cases h⟩

theorem over : Rows.setsHeadsRow.holds Tryd.pinned (OpenSpec.ofChange Rows.setsHeadsSpec) :=
  OpenClaim.holds_of_wide 4 Tryd.f4 rfl rfl rfl rfl rfl rfl rfl ⟨rfl, rfl, rfl, rfl, rfl⟩ rfl rfl rfl rfl rfl (by kernel_rfl) Tryd.func4 (by kernel_rfl)
    (of_decide_eq_true (by kernel_rfl)) (by unfold Func.isWrapper; first | (rw [if_pos (by decide +kernel)]; kernel_rfl) | (rw [if_neg (by decide +kernel)]; exact ⟨rfl, rfl⟩))
    (fun os started H enc _ => lifted os started H enc)

end Ex
theorem setsHeads_card_holds : Rows.SetsHeadsCardSaid :=
  Claim7.holds_tied_plain_at .later [] [.data] true Rows.setsHeadsCard.stood.harness false
    Ex.over (fun _ h => by cases h) (by kernel_rfl) (fun _ h => by cases h) setsHeads_row_tie rfl ⟨rfl, rfl⟩ (by kernel_rfl) rfl
    (fun f fn hf hfn => by
      obtain rfl : f = 4 := Option.some.inj (hf.symm.trans (by kernel_rfl))
      obtain rfl : fn = Tryd.f4 := (Option.some.inj (Tryd.func4.symm.trans hfn)).symm
      exact ⟨by kernel_rfl, fun j t ht => by
        rw [Tryd.params4] at ht
        have hm : t ∈ [26, 54] := by simpa using Array.mem_of_getElem? ht
        have hall : ([26, 54].all fun u => !Tryd.prog.wantsStandIn u) = true := by kernel_rfl
        exact (show Tryd.prog.wantsStandIn t = false by simpa using List.all_eq_true.1 hall t hm)⟩)
    (by kernel_rfl)
#print axioms setsHeads_card_holds
end Go.Proofs.YtooelfjceehmmaaDoor
