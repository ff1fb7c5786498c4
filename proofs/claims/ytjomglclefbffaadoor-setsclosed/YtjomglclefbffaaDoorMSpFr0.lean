import Derived.Test.YtjomglclefbffaaDoorRows
import Derived.ProofKit
import Derived.LaidMore
import Derived.OpenShut
import Derived.Stop.Joined
import Derived.Lib.TrailingZeros
import Derived.Test.YtjomglclefbffaaDoorMSpPm
import Derived.Test.YtjomglclefbffaaDoorMSpLp
import Derived.Test.YtjomglclefbffaaDoorCards
import Derived.Test.YtjomglclefbffaaDoorTie
import Derived.WalkKit
import Derived.ShutString
import Derived.ChangeOld
import Derived.Below
namespace Go.Proofs.YtjomglclefbffaaDoor
open Go.ChangeShapes Go.WideShapes Go.ChangeAt Go.RowKit
namespace Ex

theorem own : ownKnob Tryd.prog.godebug = none := by kernel_rfl
theorem laidOut : laidOutB Tryd.prog = true := by kernel_rfl
theorem tTab : (Tryd.prog.globals[0]?).map (·.type) = some 149 := by kernel_rfl
theorem u8_one : Tryd.prog.cellsOf 5 = 1 := by kernel_rfl
/-- The door's own heap meets the condition. -/
theorem door_met (os : Os) (args : Array Value) : laidMetH Tryd.prog Rows.setsTurnedRow.laid ((World.doorLaid Tryd.prog 4000 os).forCall (fun _ _ => 0) ⟨#[], args, []⟩).memory :=
  laidMetH_of_parts3 (fuel := 8) (laidMet_of_run' 8 (by kernel_rfl) (by kernel_rfl)) (by kernel_rfl) (by kernel_rfl)
theorem tab_datum : (Rows.laid_math_bits_deBruijn64tab : DataW Unit) = .agg (Lib.deBruijn64tab.map fun (n : Nat) => DataW.lit (Lit.int .u8 (n : Int))) := rfl
theorem of_laid {W : World} (h : laidMetH Tryd.prog Rows.setsTurnedRow.laid W) : ∀ j, j < 64 → W.cell? ⟨0, j, none⟩ = some (.int .u8 (Lib.deBruijn64tab.getD j 0 : Nat)) := by
  rw [MakeChecks.laidMetH_plain _ _ _ (by kernel_rfl)] at h
  obtain ⟨ps, ⟨g1, t1, cs1, f1, p1, q1, hg1, ht1, hv1, hd1, _, _⟩, _, _⟩ := h
  obtain rfl : g1 = 0 := Option.some.inj (hg1.symm.trans (by kernel_rfl))
  obtain rfl := Option.some.inj (tTab.symm.trans ht1)
  intro j hj
  have hcell := World.var?_cell hg1 hv1 j
  rw [hcell]
  obtain ⟨xs, m1, rfl, hx1, hlen, hn, hel⟩ := DataW.trod_array Tryd.underlying149 hd1
  rw [tab_datum] at hx1
  simp only [Prod.mk.injEq, DataW.agg.injEq] at hx1
  have hj0 := hel j (by simpa using hj)
  obtain ⟨xj, hxj⟩ : ∃ x, xs[j]? = some x := ⟨_, List.getElem?_eq_getElem (by rw [hn]; exact hj)⟩
  rw [hxj, u8_one] at hj0
  obtain ⟨k, e1, e2, _⟩ := DataW.trod_int Tryd.underlying5 hj0
  have hq : (xs.map (·.1))[j]? = some xj.1 := by rw [List.getElem?_map, hxj]; rfl
  rw [← hx1.1, List.getElem?_map] at hq
  obtain ⟨n, hn1, hn2⟩ := Option.map_eq_some_iff.1 hq
  rw [e2] at hn2
  simp only [DataW.lit.injEq, Lit.int.injEq, true_and] at hn2
  have hk : (Lib.deBruijn64tab.getD j 0 : Nat) = n := by rw [List.getD_eq_getElem?_getD, hn1]; rfl
  rw [hk, hn2]
  have e3 : (cs1.toList.drop (j * 1)).take 1 = [.int .u8 k] := e1
  rw [Nat.mul_one] at e3
  have e4 : ((cs1.toList.drop j).take 1)[0]? = some (.int .u8 k) := by rw [e3]; rfl
  rw [List.getElem?_take] at e4
  simpa using e4

theorem intE_size : Tryd.prog.cellsOf 3 = 1 := by kernel_rfl
theorem intE_bytes : Tryd.prog.bytesOf 3 = 8 := by kernel_rfl
section
variable {H : Type} {enc : TypeId × Value → H}
set_option maxRecDepth 100000 in
/-- An argument that is a list of ints. -/
theorem ints_arg {W : World} {a : Option Addr} {len cap : Nat} {d : DataW H} {p : List MemPlace} (h : DataW.Trod enc Tryd.prog W 0 (fun _ => true) true 27 (.slice a len cap) d p) (hz : ∀ n ∈ d.weights Tryd.prog 27, n ≤ reachBytes) : ∃ l, IntsR W (.slice a len cap) l := by
  obtain ⟨fuel, hf⟩ := h
  have hf2 : DataW.trod enc Tryd.prog W 0 (fun _ => true) true fuel 27 [.slice a len cap] = some (d, p) := hf
  refine slice_gen 0 Tryd.underlying27 1 8 intE_size (by decide) intE_bytes (by decide) (fun cs x => cs = [.int .i64 x]) hf2 hz (fun _ cs y hm hl hh hz2 => ?_)
  obtain ⟨z, e, _, _⟩ := DataW.trod_int Tryd.underlying3 hh
  exact ⟨z, e⟩
set_option maxRecDepth 100000 in
/-- An argument that is a spec. -/
theorem spec_arg {W : World} {v : Value} {d : DataW H} {p : List MemPlace} (hv : ∃ cs, v = .agg cs ∧ cs.size = Tryd.prog.cellsOf 26) (h : DataW.Trod enc Tryd.prog W 0 (fun _ => true) true 26 v d p) (hz : ∀ n ∈ d.weights Tryd.prog 26, n ≤ reachBytes) :
    ∃ (k : Nat) (sp : SpecM k) (vl vn vp : Value), v = .agg #[vl, vn, .int .i64 sp.2.2.1, vp] ∧ LexAt W k vl sp.1 ∧ NamesAt W vn sp.2.1 ∧ ProdsAt W vp sp.2.2.2 := by
  obtain ⟨cs, rfl, hc⟩ := hv
  rw [spec_size] at hc
  obtain ⟨fuel, hf⟩ := h
  have hf2 : DataW.trod enc Tryd.prog W 0 (fun _ => true) true fuel 26 cs.toList = some (d, p) := hf
  obtain ⟨sp, vl, vn, vp, h1, h2, h3, h4⟩ := spec_of (Nat.le_refl fuel) (by rw [Array.length_toList]; exact hc) hf2 hz
  refine ⟨fuel, sp, vl, vn, vp, ?_, h2, h3, h4⟩
  have e : cs = #[vl, vn, .int .i64 sp.2.2.1, vp] := by
    apply Array.toList_inj.1
    rw [h1]
  rw [e]
end

end Ex
end Go.Proofs.YtjomglclefbffaaDoor
namespace Go.Proofs.YtjomglclefbffaaDoor
open Go.ChangeShapes Go.WideShapes Go.ChangeAt Go.RowKit
set_option linter.unusedVariables false
namespace Ex

theorem walk (k : Nat) (sp : SpecM k) (vl vn vp : Value) (w : World) (hl : LexAt w k vl sp.1) (hn : NamesAt w vn sp.2.1) (hp : ProdsAt w vp sp.2.2.2) (hT : ∀ j, j < 64 → w.cell? ⟨0, j, none⟩ = some (.int .u8 (Lib.deBruijn64tab.getD j 0 : Nat))) :
    Calls Tryd.prog 6 #[.agg #[vl, vn, .int .i64 sp.2.2.1, vp]] w fun e w' => e = .returned (.bool true) ∧ Below w.heap.size w w' := by
  obtain ⟨al, cl, rfl, _⟩ := hl.len
  obtain ⟨an, cn, rfl, _, hnn⟩ := hn.len
  obtain ⟨ap, cp, rfl, _⟩ := hp.len
  exact (closed_is k sp.1 sp.2.2.2 al an ap _ cl _ cn _ cp sp.2.2.1 w hnn rfl rfl hl hp hT).mono fun _ _ h => ⟨h.1, h.2.below⟩

set_option maxRecDepth 100000 in
theorem lifted (os : Os) (started : os.Started) (H : Type) (enc : TypeId × Value → H) :
    ReturnsInHanded {} Tryd.checked os 6 .any (fun w args => (Rows.setsClosedSpec.pre enc Tryd.prog Tryd.f6 [] false w args ∧ laidMetH Tryd.prog Rows.setsClosedRow.laid w) ∧ sizedMet enc Tryd.prog Tryd.f6 (OpenSpec.ofChange Rows.setsClosedSpec) false w args)
      (Rows.setsClosedSpec.post enc Tryd.prog Tryd.f6 false true false false) := by
  refine returnsInHanded_of_change_and (C := Tryd.checked) (X := fun w _ => laidMetH Tryd.prog Rows.setsClosedRow.laid w) (fun _ _ _ hh h => h.of_heap hh) own started (by kernel_rfl) Tryd.func6
    (ChangeSpec.witness_shaped (enc := enc) (C := Tryd.checked) (os := os) (X := fun w _ => laidMetH Tryd.prog Rows.setsClosedRow.laid w) false (World.doorLaid Tryd.prog 4000 os) #[.agg #[.slice none 0 0, .slice none 0 0, .int .i64 0, .slice none 0 0]] 8 rfl (World.shaped_of_RefB (by kernel_rfl) (by kernel_rfl)) (by kernel_rfl) (by kernel_rfl) (by kernel_rfl) (show _ from door_met os _)) ?_
  intro W base args ds gs before hval0 hW _ hsz hL _
  have hval : ∀ (j : Nat) t v, Tryd.f6.params[j]? = some t → args[j]? = some v → Value.okWide Tryd.prog W .any base t v := hval0
  have hW' := hW
  obtain ⟨p, q, hA0, hV, rfl, hfz, hnd⟩ := hW
  have hA : DataW.TrodAll enc Tryd.prog W 0 (fun _ => true) true Tryd.f6.params.toList args.toList ds p := hA0
  rw [Tryd.params6] at hA hval
  obtain ⟨v0, vs0, d0, ds0, p0, q0, hargs, rfl, rfl, h0, r0⟩ := trodAll_cons hA
  obtain ⟨rfl, rfl, rfl⟩ := trodAll_nil r0
  obtain rfl : args = #[v0] := by cases args; simp_all
  obtain ⟨rfl, rfl⟩ := trodVars_none hV
  have s0 := okWide_struct Tryd.underlying26 (hval 0 26 v0 rfl rfl)
  have k0 := h0
  have lt0 : ∀ x ∈ p0, x.block < W.heap.size := by obtain ⟨m, hm⟩ := k0; exact DataW.trod_lt m _ _ _ hm
  have wt0 : ∀ n ∈ d0.weights Tryd.prog 26, n ≤ reachBytes := fun n hn => by
    have := List.all_eq_true.1 hsz n (DataW.weights_mem_each (j := 0) (by rfl) (by rfl) n hn)
    simpa using this
  obtain ⟨ka, sp, vl, vn, vp, e0, x0, x1, x2⟩ := spec_arg s0 k0 wt0
  clear hA0 hval0
  refine Calls.mono (R := fun e w' => e = .returned (.bool true) ∧ Below W.heap.size W w') (by rw [e0]; exact walk ka sp vl vn vp W x0 x1 x2 (of_laid (show laidMetH Tryd.prog Rows.setsTurnedRow.laid W from hL))) fun e W' ⟨he, bel⟩ => ?_
  subst he
  exact ⟨_, rfl, _, _, _, [], _, [], hW', trodAll_mk1 (shut_bool Tryd.underlying4 _), (trodAll_cons_mk (Below.trod laidOut (by kernel_rfl) (of_decide_eq_true (by kernel_rfl)) k0 bel lt0) trodAll_mk0), rfl, bel.frame _, fun h => by cases h⟩

theorem over : Rows.setsClosedRow.holds Tryd.pinned (OpenSpec.ofChange Rows.setsClosedSpec) :=
  OpenClaim.holds_of_wide 6 Tryd.f6 rfl rfl rfl rfl rfl rfl rfl ⟨rfl, rfl, rfl, rfl, rfl⟩ rfl rfl rfl rfl rfl (by kernel_rfl) Tryd.func6 (by kernel_rfl)
    (of_decide_eq_true (by kernel_rfl)) (by unfold Func.isWrapper; first | (rw [if_pos (by decide +kernel)]; kernel_rfl) | (rw [if_neg (by decide +kernel)]; exact ⟨rfl, rfl⟩))
    (fun os started H enc _ => lifted os started H enc)

end Ex
theorem setsClosed_card_holds : Rows.SetsClosedCardSaid :=
  Claim7.holds_tied_plain_at .later [] [.data] true Rows.setsClosedCard.stood.harness false
    Ex.over (fun _ h => by cases h) (by kernel_rfl) (fun _ h => by cases h) setsClosed_row_tie rfl ⟨rfl, rfl⟩ (by kernel_rfl) rfl
    (fun f fn hf hfn => by
      obtain rfl : f = 6 := Option.some.inj (hf.symm.trans (by kernel_rfl))
      obtain rfl : fn = Tryd.f6 := (Option.some.inj (Tryd.func6.symm.trans hfn)).symm
      exact ⟨by kernel_rfl, fun j t ht => by
        rw [Tryd.params6] at ht
        have hm : t ∈ [26] := by simpa using Array.mem_of_getElem? ht
        have hall : ([26].all fun u => !Tryd.prog.wantsStandIn u) = true := by kernel_rfl
        exact (show Tryd.prog.wantsStandIn t = false by simpa using List.all_eq_true.1 hall t hm)⟩)
    (by kernel_rfl)
#print axioms setsClosed_card_holds
end Go.Proofs.YtjomglclefbffaaDoor
