import Derived.Test.YtooelfjceehmmaaDoorMSpDg
import Derived.Test.YtooelfjceehmmaaDoorMSpDb
import Derived.Test.YtooelfjceehmmaaDoorMSpQu
namespace Go.Proofs.YtooelfjceehmmaaDoor
open Go.RowKit
attribute [local go_sem] Oper.semAt_some
namespace Ex

theorem TabB.put {w : World} {g i : Nat} {ms : List Bool} (h : TabB w g ms) (x : Bool) : TabB (w.setCell ⟨g, i, none⟩ (.bool x)) g (ms.set i x) := by
  unfold TabB at h ⊢
  have hl : g < w.heap.size := (Array.getElem?_eq_some_iff.1 h).1
  have he : w.heap[g] = Obj.cells (ms.map Value.bool).toArray 4 (0, 0) := by rw [Array.getElem?_eq_getElem hl] at h; exact Option.some.inj h
  simp [World.setCell, Array.getElem_modify, hl, he, List.map_set]
end Ex
end Go.Proofs.YtooelfjceehmmaaDoor
namespace Go.Proofs.YtooelfjceehmmaaDoor
open Go.RowKit
attribute [local go_sem] Oper.semAt_some
namespace Ex

/-- The fault of a row of symbols. -/
def rowQ {k : Nat} (lex : List (LexM k)) (nn : Nat) (row : List SymM) : Int × Int := if 16 < row.length then (2, 0) else ((wrongP lex nn row).2, (wrongP lex nn row).1)
set_option linter.unusedSimpArgs false in
set_option maxRecDepth 100000 in
set_option maxHeartbeats 4000000 in
/-- checkRow of any row. -/
theorem checkRow_is (k : Nat) (a b ar : Option Addr) (n c n2 c2 nr cr : Nat) (lex : List (LexM k)) (row : List SymM) (vp : Value) (st : Int) (w : World) (hlex : lex.length = n) (hrow : row.length = nr) (hn2 : n2 ≤ 17592186044416) (hl : LexAt w k (.slice a n c) lex) (hr : RightAt w (.slice ar nr cr) row) :
    Calls Tryd.prog 28 #[.agg #[.slice a n c, .slice b n2 c2, .int .i64 st, vp], .slice ar nr cr] w fun e w' => e = .returned (faultV (rowQ lex n2 row)) ∧ Kept w w' := by
  obtain ⟨_, _, e1, hc, hn⟩ := hr.len
  simp only [Value.slice.injEq] at e1
  obtain ⟨rfl, en, rfl⟩ := e1
  clear en
  rw [hrow] at hc hn
  have gn : (nr : Int) ≤ 17592186044416 := by omega
  obtain ⟨h1, h2, h3⟩ := chk_start w (.slice a n c) (.slice b n2 c2) (.int .i64 st) vp
  have HB := hide1 h1
  have HF := hide1 h2
  have HK := hide1 h3
  have HL := hide1 hl
  have HR := hide1 hr
  have HLEN := hide1 hlex
  have HROW := hide1 hrow
  have HN2 := hide1 hn2
  clear h1 h2 h3 hl hr hlex hrow hn2
  go_enter Tryd.func28, Tryd.ntmps28
  go_upto_region 1 with fail
  obtain ⟨W, hW⟩ : ∃ W, (w.alloc (.cells #[.slice a n c, .slice b n2 c2, .int .i64 st, vp] 26)).alloc (.cells #[.int .i64 0, .int .i64 0, .string ⟨#[]⟩] 44) = W := ⟨_, rfl⟩
  rw [hW] at HB HF HK ⊢
  clear hW
  obtain ⟨d, hd⟩ : ∃ d, w.heap.size = d := ⟨_, rfl⟩
  rw [hd] at HB HF ⊢
  have HSZ := hide1 hd
  clear hd
  by_cases h16 : (16 : Int) < (nr : Int)
  · have HE : Hid (rowQ lex n2 row = (2, 0)) := hide1 (by unfold rowQ; rw [if_pos (by have := HROW.out; omega)])
    obtain ⟨⟨f0, f1, f2⟩, z0, z1, z2⟩ := HF.out.cells
    go_wp2_with fail
    refine bodyPost_ret (results_cell_row rfl _ _ (d + 1) 44 _ (0, 0) _ rfl (HF.out.fill 2 0) Tryd.underlying44 rfl (fault_size _ _)) rfl ?_
    exact ⟨by rw [HE.out]; rfl, keepB (keepB (keepB HK.out (by rw [HSZ.out]; omega)) (by rw [HSZ.out]; omega)) (by rw [HSZ.out]; omega)⟩
  · obtain ⟨s0, s1, s2, s3⟩ := HB.out.facts
    obtain ⟨pa, pe, hpp⟩ : ∃ pa pe, wrongP lex n2 row = (pa, pe) := ⟨_, _, rfl⟩
    have HE : Hid (rowQ lex n2 row = (pe, pa)) := hide1 (by unfold rowQ; rw [if_neg (by have := HROW.out; omega), hpp])
    have HPP := hide1 hpp
    clear hpp
    go_upto_region 4 with (go_at_call 55; refine (firstWrong_is k a b ar n c n2 c2 nr cr lex row HLEN.out HROW.out HN2.out vp st _ (HL.out.keep HK.out) (HR.out.keep HK.out)).mono ?_; rintro e w6 ⟨rfl, hk6⟩; rw [HPP.out]; have HK6 := hide1 hk6; clear hk6)
    clear s0 s1 s2 s3
    have HF6 := hide1 (HF.out.keep HK6.out)
    have HKw6 := hide1 (gtrans HK.out HK6.out)
    obtain ⟨⟨f0, f1, f2⟩, z0, z1, z2⟩ := HF6.out.cells
    go_wp2_with fail
    refine bodyPost_ret (results_cell_row rfl _ _ (d + 1) 44 _ (0, 0) _ rfl (HF6.out.fill pe pa) Tryd.underlying44 rfl (fault_size _ _)) rfl ?_
    exact ⟨by rw [HE.out]; rfl, keepB (keepB (keepB HKw6.out (by rw [HSZ.out]; omega)) (by rw [HSZ.out]; omega)) (by rw [HSZ.out]; omega)⟩
/-- The number of a terminal. -/
def TermOk {k : Nat} (lex : List (LexM k)) (nl : Nat) (z : Int) : Prop := 0 ≤ z ∧ z < (nl : Int) + 2 ∧ ¬ (z < (nl : Int) ∧ (lex[z.toNat]?.map (·.2.1)).getD false = true)
/-- The set of a list's numbers. -/
def bitsL (l : List Int) : Nat := l.foldl (fun A z => A ||| 2 ^ z.toNat) 0
theorem bitsL_snoc (l : List Int) (z : Int) : bitsL (l ++ [z]) = bitsL l ||| 2 ^ z.toNat := by unfold bitsL; rw [List.foldl_append]; rfl
theorem bitsL_bit (l : List Int) (hl : ∀ z ∈ l, 0 ≤ z) (t : Nat) : (bitsL l).testBit t = true ↔ (t : Int) ∈ l := by
  have key : ∀ (l : List Int), (∀ z ∈ l, 0 ≤ z) → ∀ A : Nat, (l.foldl (fun A z => A ||| 2 ^ z.toNat) A).testBit t = true ↔ A.testBit t = true ∨ (t : Int) ∈ l := by
    intro l
    induction l with
    | nil => intro _ A; simp
    | cons z l ih =>
      intro h A
      rw [List.foldl_cons, ih (fun y hy => h y (List.mem_cons_of_mem _ hy)), Nat.testBit_or, Nat.testBit_two_pow, List.mem_cons]
      have h0 := h z List.mem_cons_self
      have e : decide (z.toNat = t) = true ↔ (t : Int) = z := by
        rw [decide_eq_true_eq]
        omega
      rw [Bool.or_eq_true, e, or_assoc]
  have h := key l hl 0
  rw [Nat.zero_testBit] at h
  unfold bitsL
  rw [h]
  exact ⟨fun h => h.elim (fun h => by cases h) id, Or.inr⟩
theorem results_two_rows {P : Program} {fn : Func} {p q : Tmp} {ty tz : TypeId} (h : fn.results = #[.cell p ty, .cell q tz]) (tmps : Array Value) (w : World) (g g2 : Nat) (t t2 : TypeId) (cs cs2 : Array Value) (fr fr2 : Nat × Nat) (d d2 : TypeDesc)
    (hp : tmps.getD p undef = .pointer (some ⟨g, 0, none⟩)) (hg : w.heap[g]? = some (.cells cs t fr)) (hu : P.underlying ty = some d) (hd : (match d with | .struct _ | .array _ _ => true | _ => false) = true) (hi : (P.info? ty).map (·.size) = some cs.size)
    (hq : tmps.getD q undef = .pointer (some ⟨g2, 0, none⟩)) (hg2 : w.heap[g2]? = some (.cells cs2 t2 fr2)) (hu2 : P.underlying tz = some d2) (hd2 : (match d2 with | .struct _ | .array _ _ => true | _ => false) = true) (hi2 : (P.info? tz).map (·.size) = some cs2.size) :
    (results fn tmps).run P w = .ok (.tuple #[.agg cs, .agg cs2]) w := by
  have hp' : tmps[p]?.getD undef = .pointer (some ⟨g, 0, none⟩) := by simpa using hp
  have hq' : tmps[q]?.getD undef = .pointer (some ⟨g2, 0, none⟩) := by simpa using hq
  simp [results, h, hp', hq', asAddr, run_loadVar_row w g t ty cs fr d hg hu hd hi, run_loadVar_row w g2 t2 tz cs2 fr2 d2 hg2 hu2 hd2 hi2]

end Ex
end Go.Proofs.YtooelfjceehmmaaDoor
