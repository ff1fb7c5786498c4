import Derived.Test.YtbnchnlogikecaaGreatDoorPExWr9
namespace Go.Proofs.YtbnchnlogikecaaGreatDoor
open Go.RowKit Go.Maps
attribute [local go_sem] Oper.semAt_some
set_option linter.unusedVariables false
set_option linter.unusedSimpArgs false
set_option maxRecDepth 100000
set_option maxHeartbeats 4000000
namespace Ex
namespace Gu
open Sh Gs
def uniD : DataW Unit := .agg []
def uniR (v : Value) : Option (DataW Unit × List MemPlace) := match v with
  | .agg xs => if xs.toList = [] then some (uniD, []) else none
  | _ => none
theorem uniR_mk : uniR (.agg #[]) = some (uniD, []) := rfl
theorem uniR_inv {v : Value} {y : DataW Unit × List MemPlace} (h : uniR v = some y) : v = .agg #[] := by
  unfold uniR at h
  split at h
  · rename_i xs
    split at h
    · rename_i he
      congr 1
      exact Array.toList_inj.1 he
    · cases h
  · cases h
def hasT (tk : List ByteArray) (x : ByteArray) : Bool := tk.any fun y => decide (y = x)
theorem hasT_snoc (tk : List ByteArray) (x z : ByteArray) : hasT (tk ++ [x]) z = (hasT tk z || decide (x = z)) := by simp [hasT]
def TMap (w : World) (m : Nat) (tk : List ByteArray) : Prop := MapS uniR w m tk.length (fun x => if hasT tk x = true then some uniD else none)
theorem uni_zero (w : World) : (zeroValue 140).run Tryz.prog w = .ok (.agg #[]) w := by kernel_rfl
theorem TMap.look {w : World} {m : Nat} {tk : List ByteArray} (h : TMap w m tk) {x : ByteArray} (hx : x.size ≤ 100000) : (Instr.lookup 94 (.map (some m)) (.string x) true).run Tryz.prog w = .ok (.tuple #[.agg #[], .bool (hasT tk x)]) w := by
  obtain ⟨D, h1, h2⟩ := h
  obtain ⟨v, ps, hrun, hv⟩ := h1.look_ok s_key Tryz.underlying94 (uni_zero w) uniR_mk (keyS_is hx)
  rw [hrun, uniR_inv hv, (h2 x hx).1]
  cases e : hasT tk x <;> simp [e]
theorem TMap.store {w : World} {m : Nat} {tk : List ByteArray} (h : TMap w m tk) (hn : tk.length ≤ 100000) {x : ByteArray} (hx : x.size ≤ 100000) :
    ∃ w', (Instr.mapUpdate 94 (.map (some m)) (.string x) (.agg #[])).run Tryz.prog w = .ok () w' ∧ TMap w' m (tk ++ [x]) ∧ KeptBut m w w' ∧ w'.heap.size = w.heap.size := by
  obtain ⟨D, h1, h2⟩ := h
  obtain ⟨w', hrun, h3, h4⟩ := h1.store s_key Tryz.underlying94 (by unfold maxLen; omega) (keyS_is hx) uniR_mk
  refine ⟨w', hrun, ?_, but_turned h4⟩
  unfold TMap
  rw [List.length_append, List.length_singleton]
  refine MapS.ext (MapS.puts h1 h2 h3) (fun z => ?_)
  rw [hasT_snoc]
  by_cases e : z = x
  · simp [e]
  · have e2 : ¬ x = z := fun h => e h.symm
    simp [e, e2]
theorem TMap.lt {w : World} {m : Nat} {tk : List ByteArray} (h : TMap w m tk) : m < w.heap.size := MapS.lt h
theorem TMap.same {w w' : World} {m : Nat} {tk : List ByteArray} (h : TMap w m tk) (he : w'.heap[m]? = w.heap[m]?) : TMap w' m tk := MapS.same h he
def ChB (w : World) (b : Nat) (vl vn vp : Value) (st : Int) (m : Nat) (xP : SlV) : Prop := w.heap[b]? = some (.cells #[vl, vn, .int .i64 st, vp, .map (some m), val xP] 96 (0, 0))
theorem ChB.cells {w : World} {b : Nat} {vl vn vp : Value} {st : Int} {m : Nat} {xP : SlV} (h : ChB w b vl vn vp st m xP) :
    (w.cell? ⟨b, 0, none⟩ = some vl ∧ w.cell? ⟨b, 1, none⟩ = some vn ∧ w.cell? ⟨b, 2, none⟩ = some (.int .i64 st) ∧ w.cell? ⟨b, 3, none⟩ = some vp ∧ w.cell? ⟨b, 4, none⟩ = some (.map (some m)) ∧ w.cell? ⟨b, 5, none⟩ = some (.slice xP.1 xP.2.1 xP.2.2)) ∧ ∀ o, w.frozen? ⟨b, o, none⟩ = false := by
  unfold ChB at h
  refine ⟨⟨?_, ?_, ?_, ?_, ?_, ?_⟩, fun o => ?_⟩ <;> simp [World.cell?, World.frozen?, h, val]
structure ChI (w0 w : World) (b : Nat) (vl vn vp : Value) (st : Int) (tk ps : List ByteArray) (m : Nat) (xP : SlV) : Prop where
  kept : Kept w0 w
  box : ChB w b vl vn vp st m xP
  lb : w0.heap.size ≤ b
  lm : w0.heap.size ≤ m
  map : TMap w m tk
  pats : LO strE w w0.heap.size (val xP) ps
theorem ChI.ltb {w0 w : World} {b : Nat} {vl vn vp : Value} {st : Int} {tk ps : List ByteArray} {m : Nat} {xP : SlV} (h : ChI w0 w b vl vn vp st tk ps m xP) : b < w.heap.size := (Array.getElem?_eq_some_iff.1 h.box).1
theorem ChI.keep {w0 w w' : World} {b : Nat} {vl vn vp : Value} {st : Int} {tk ps : List ByteArray} {m : Nat} {xP : SlV} (h : ChI w0 w b vl vn vp st tk ps m xP) (hk : Kept w w') : ChI w0 w' b vl vn vp st tk ps m xP :=
  ⟨gtrans h.kept hk, (hk.2.2.2.2 b h.ltb).trans h.box, h.lb, h.lm, h.map.same (hk.2.2.2.2 m h.map.lt), h.pats.keep hk⟩
theorem ChI.nemb {w0 w : World} {b : Nat} {vl vn vp : Value} {st : Int} {tk ps : List ByteArray} {m : Nat} {xP : SlV} (h : ChI w0 w b vl vn vp st tk ps m xP) : b ≠ m := fun e => by
  obtain ⟨D, ⟨es, clock, hb, _⟩, _⟩ := h.map
  have h1 := h.box
  unfold ChB at h1
  rw [e, hb] at h1
  cases h1
theorem ChI.nep {w0 w : World} {b : Nat} {vl vn vp : Value} {st : Int} {tk ps : List ByteArray} {m : Nat} {xP : SlV} (h : ChI w0 w b vl vn vp st tk ps m xP) : ∀ d, (val xP).ownBlock = some d → d ≠ b ∧ d ≠ m := fun d hd => by
  obtain ⟨cur, hc⟩ := h.pats.type hd
  refine ⟨fun e => ?_, fun e => ?_⟩
  · have h1 := h.box
    unfold ChB at h1
    rw [← e, hc] at h1
    injection h1 with h1
    injection h1 with _ h1
    revert h1
    decide
  · obtain ⟨D, ⟨es, clock, hb, _⟩, _⟩ := h.map
    rw [← e, hc] at hb
    cases hb
theorem ChI.take {w0 w w' : World} {b : Nat} {vl vn vp : Value} {st : Int} {tk ps : List ByteArray} {m : Nat} {xP : SlV} (h : ChI w0 w b vl vn vp st tk ps m xP) {x : ByteArray} (hm : TMap w' m (tk ++ [x])) (hk : KeptBut m w w') : ChI w0 w' b vl vn vp st (tk ++ [x]) ps m xP :=
  ⟨KeptBut.up h.kept h.lm hk, (hk.2.2.2.2 b h.ltb h.nemb).trans h.box, h.lb, h.lm, hm, h.pats.same (fun d hd => hk.2.2.2.2 d (h.pats.lt' d hd).2 (h.nep d hd).2)⟩
theorem ChI.pat {w0 w w' : World} {b : Nat} {vl vn vp : Value} {st : Int} {tk ps : List ByteArray} {m : Nat} {xP : SlV} (h : ChI w0 w b vl vn vp st tk ps m xP) {g n cap : Nat} {q : ByteArray} (hn : LO strE w' w0.heap.size (.slice (some ⟨g, 0, none⟩) n cap) (ps ++ [q])) (hg : w.grownBy w' (val xP).ownBlock) (hor : (val xP).ownBlock = some g ∨ g = w.heap.size) :
    ChI w0 (w'.setCell ⟨b, 5, none⟩ (.slice (some ⟨g, 0, none⟩) n cap)) b vl vn vp st tk (ps ++ [q]) m (some ⟨g, 0, none⟩, n, cap) := by
  have hgb : g ≠ b := by
    rcases hor with e | e
    · exact (h.nep g e).1
    · have := h.ltb; omega
  have hb' : w'.heap[b]? = w.heap[b]? := hg.block b h.ltb (fun e => (h.nep b e.symm).1 rfl)
  refine ⟨?_, ?_, h.lb, h.lm, ?_, hn.same (fun d hd => Below.heap_setCell _ _ _ _ (fun e => hgb (by simp only [Value.ownBlock, Option.some.injEq] at hd; rw [hd]; exact e)))⟩
  · refine ⟨hg.os.trans h.kept.1, hg.tape.trans h.kept.2.1, hg.output.trans h.kept.2.2.1, Nat.le_trans (Nat.le_trans h.kept.size hg.size) (by simp [World.setCell]), fun d hd => ?_⟩
    rw [Below.heap_setCell _ _ _ _ (fun e => by have h1 := h.lb; have h2 : d = b := e; omega), hg.block d (Nat.lt_of_lt_of_le hd h.kept.size) (fun e => by have := (h.pats.lt' d e.symm).1; omega)]
    exact h.kept.2.2.2.2 d hd
  · unfold ChB
    rw [heap_setb (hb'.trans h.box)]
    rfl
  · refine h.map.same ?_
    rw [Below.heap_setCell _ _ _ _ (fun e => h.nemb e.symm)]
    exact hg.block m h.map.lt (fun e => (h.nep m e.symm).2 rfl)
def Ow (b m : Nat) (xP : SlV) (d : Nat) : Prop := d = b ∨ d = m ∨ (val xP).ownBlock = some d
def GoK (b m : Nat) (xP : SlV) (w : World) (xP' : SlV) (w' : World) : Prop := KT (Ow b m xP) w w' ∧ Own1 w (val xP) (val xP')
theorem GoK.refl (b m : Nat) (xP : SlV) (w : World) : GoK b m xP w xP w := ⟨(Kept.refl w).kt _, .inl rfl⟩
theorem GoK.kt {b m : Nat} {xP xP' : SlV} {w w' w2 : World} (h : GoK b m xP w xP' w') (h2 : KT (Ow b m xP') w' w2) : KT (Ow b m xP) w w2 :=
  KT.wide h.1 h2 (fun d hd hs => by
    rcases hs with hs | hs | hs
    · exact .inl hs
    · exact .inr (.inl hs)
    · rcases h.2 with e | ⟨g, e, hg⟩
      · exact .inr (.inr (by rw [← e]; exact hs))
      · rw [e] at hs
        cases hs
        omega)
theorem GoK.trans {b m : Nat} {xP xP' xP2 : SlV} {w w' w2 : World} (h : GoK b m xP w xP' w') (h2 : GoK b m xP' w' xP2 w2) : GoK b m xP w xP2 w2 :=
  ⟨KT.wide h.1 h2.1 (fun d hd hs => by
    rcases hs with hs | hs | hs
    · exact .inl hs
    · exact .inr (.inl hs)
    · rcases h.2 with e | ⟨g, e, hg⟩
      · exact .inr (.inr (by rw [← e]; exact hs))
      · rw [e] at hs
        cases hs
        omega), h.2.trans h2.2 h.1.2.2.2.1⟩
theorem GoK.kept {b m : Nat} {xP xP' : SlV} {w w' w2 : World} (h : GoK b m xP w xP' w') (hk : Kept w' w2) : GoK b m xP w xP' w2 := h.trans ⟨hk.kt _, .inl rfl⟩
theorem ChI.far {w0 w : World} {b : Nat} {vl vn vp : Value} {st : Int} {tk ps : List ByteArray} {m : Nat} {xP : SlV} (h : ChI w0 w b vl vn vp st tk ps m xP) {d : Nat} (hd : w.heap.size ≤ d) : ¬ Ow b m xP d := fun e => by
  rcases e with e | e | e
  · have := h.ltb; omega
  · have := h.map.lt; omega
  · have := (h.pats.lt' d e).2; omega
theorem GoK.block {b m : Nat} {xP xP' : SlV} {w w' : World} (h : GoK b m xP w xP' w') {d : Nat} (hd : d < w.heap.size) (hn : ¬ Ow b m xP d) : w'.heap[d]? = w.heap[d]? := h.1.2.2.2.2 d hd hn
theorem GoK.far {b m : Nat} {xP xP' : SlV} {w w' : World} (h : GoK b m xP w xP' w') {d : Nat} (hd : d < w.heap.size) (hn : ¬ Ow b m xP d) : ¬ Ow b m xP' d := fun e => by
  rcases e with e | e | e
  · exact hn (.inl e)
  · exact hn (.inr (.inl e))
  · rcases h.2 with e2 | ⟨g, e2, hg⟩
    · exact hn (.inr (.inr (by rw [← e2]; exact e)))
    · rw [e2] at e
      cases e
      omega
def OutK (w0 : World) (b : Nat) (vl vn vp : Value) (st : Int) (m : Nat) (xP : SlV) (w : World) (x : Except Flt (List ByteArray × List ByteArray)) (e : Ending) (w' : World) : Prop :=
  match x with
  | .ok r => e = .returned (.tuple #[]) ∧ ∃ xP', ChI w0 w' b vl vn vp st r.1 r.2 m xP' ∧ GoK b m xP w xP' w'
  | .error f => e = thrown f.1 f.2.1 f.2.2 ∧ Kept w0 w' ∧ KT (Ow b m xP) w w'
theorem outK_err {w0 : World} {b : Nat} {vl vn vp : Value} {st : Int} {m : Nat} {xP : SlV} {w : World} {x : Except Flt (List ByteArray × List ByteArray)} {w' : World} {er at_ : Int} {nm : ByteArray} (h : x = .error (er, at_, nm)) (h2 : Kept w0 w') (h3 : KT (Ow b m xP) w w') : OutK w0 b vl vn vp st m xP w x (thrown er at_ nm) w' := by
  subst h; exact ⟨rfl, h2, h3⟩
theorem outK_ok {w0 : World} {b : Nat} {vl vn vp : Value} {st : Int} {x : Except Flt (List ByteArray × List ByteArray)} {w w' : World} {tk ps : List ByteArray} {m : Nat} {xP xP' : SlV} (h : x = .ok (tk, ps)) (h2 : ChI w0 w' b vl vn vp st tk ps m xP') (h3 : GoK b m xP w xP' w') : OutK w0 b vl vn vp st m xP w x (.returned (.tuple #[])) w' := by
  subst h; exact ⟨rfl, xP', h2, h3⟩
def nameC (at_ : Int) (nm ls : ByteArray) (r : List ByteArray × List ByteArray) : Except Flt (List ByteArray × List ByteArray) :=
  if nameB nm = false then .error (65, at_, ls) else if hasT r.1 nm = true then .error (61, at_, ls) else .ok (r.1 ++ [nm], r.2)
def ruleC (at_ : Int) (x : LxM) (r : List ByteArray × List ByteArray) : Except Flt (List ByteArray × List ByteArray) :=
  (nameC at_ x.1 lexW r).bind fun r1 => if printE x.2.2.2 ≠ 0 then .error (printE x.2.2.2, at_, lexW) else .ok (r1.1, r1.2 ++ [printS x.2.2.2])
theorem nameB_size {nm : ByteArray} (h : nameB nm = true) : nm.size ≤ 64 ∧ 0 < nm.size := by
  unfold nameB at h
  simp only [Bool.and_eq_true, decide_eq_true_eq] at h
  exact ⟨h.1.1.2, h.1.1.1⟩
theorem name_is (w0 : World) (b : Nat) (vl vn vp : Value) (st : Int) (at_ : Int) (nm ls : ByteArray) (r : List ByteArray × List ByteArray) (m : Nat) (xP : SlV) (w : World) (h : ChI w0 w b vl vn vp st r.1 r.2 m xP) (hl : r.1.length ≤ 100000) :
    Calls Tryz.prog 55 #[.pointer (some ⟨b, 0, none⟩), .int .i64 at_, .string nm, .string ls] w (OutK w0 b vl vn vp st m xP w (nameC at_ nm ls r)) := by
  obtain ⟨R, hR⟩ : ∃ R, nameC at_ nm ls r = R := ⟨_, rfl⟩
  rw [hR]
  unfold nameC at hR
  obtain ⟨tk, ps⟩ := r
  dsimp only at hR h hl
  have HN := hide1 (isName_is nm)
  have HI := hide1 h
  have HL := hide1 hl
  cases hb : nameB nm with
  | false =>
    rw [hb, if_pos rfl] at hR
    rw [hb] at HN
    clear h hl hb
    go_enter Tryz.func55, Tryz.ntmps55
    go_wp2_with (first | (go_at_call 74; go_must (refine (HN.out _).mono ?_; rintro e w1 ⟨rfl, hk1⟩)) | (go_at_call 51; go_must (refine (Gs.fail_is _ _ _ _).mono ?_; rintro e w7 ⟨rfl, hk7⟩; have h9 : OutK w0 b vl vn vp st m xP w R (thrown 65 at_ ls) w7 := outK_err hR.symm (gtrans HI.out.kept (gtrans hk1 hk7)) ((GoK.refl b m xP w).kept (gtrans hk1 hk7)).1; unfold thrown at h9 ⊢)))
    exact ⟨rfl, h9⟩
  | true =>
    rw [hb, if_neg (by decide)] at hR
    rw [hb] at HN
    have HSZ := hide1 (nameB_size hb).1
    clear h hl hb
    go_enter Tryz.func55, Tryz.ntmps55
    go_upto_region 2 with (go_at_call 74; go_must (refine (HN.out _).mono ?_; rintro e w1 ⟨rfl, hk1⟩; have HI1 := hide1 (HI.out.keep hk1); have HG1 := hide1 ((GoK.refl b m xP w).kept hk1); clear hk1))
    have d4 := HI1.out.box.cells.1.2.2.2.2.1
    have hlk := HI1.out.map.look (x := nm) (by have := HSZ.out; omega)
    by_cases hm : hasT tk nm = true
    · rw [if_pos hm] at hR
      rw [hm] at hlk
      go_wp2_with ((go_at_call 51; go_must (refine (Gs.fail_is _ _ _ _).mono ?_; rintro e w7 ⟨rfl, hk7⟩; have h9 : OutK w0 b vl vn vp st m xP w R (thrown 61 at_ ls) w7 := outK_err hR.symm (gtrans (HI1.out.keep ((Kept.refl _).alloc _ _)).kept hk7) (HG1.out.kept (gtrans ((Kept.refl _).alloc _ _) hk7)).1; unfold thrown at h9 ⊢)))
      exact ⟨rfl, h9⟩
    · rw [if_neg hm] at hR
      rw [show hasT tk nm = false by simpa using hm] at hlk
      go_upto_region 5 with fail
      have HI2 := hide1 (HI1.out.keep ((Kept.refl w1).alloc #[] 140))
      have HG2 := hide1 (HG1.out.kept ((Kept.refl w1).alloc #[] 140))
      clear d4 hlk
      generalize w1.alloc (.cells #[] 140) = W2 at HI2 HG2 ⊢
      have d4 := HI2.out.box.cells.1.2.2.2.2.1
      obtain ⟨w3, hst, hm3, hk3, -⟩ := HI2.out.map.store HL.out (x := nm) (by have := HSZ.out; omega)
      have HI3 := hide1 (HI2.out.take hm3 hk3)
      have HG3 : Hid (GoK b m xP w xP w3) := HG2.out.trans ⟨⟨hk3.1, hk3.2.1, hk3.2.2.1, hk3.2.2.2.1, fun d hd hn => hk3.2.2.2.2 d hd (fun e => hn (.inr (.inl e)))⟩, .inl rfl⟩
      clear hm3 hk3
      go_wp2_with fail
      go_end0
      exact outK_ok hR.symm HI3.out HG3.out
end Gu
end Ex
end Go.Proofs.YtbnchnlogikecaaGreatDoor
namespace Go.Proofs.YtbnchnlogikecaaGreatDoor
open Go.RowKit
attribute [local go_sem] Oper.semAt_some
set_option linter.unusedVariables false
set_option linter.unusedSimpArgs false
set_option maxRecDepth 100000
set_option maxHeartbeats 4000000
namespace Ex
namespace Gu
open Sh Gs
def noSym (ln nn : Nat) (x : SymM) : Bool :=
  if x.1 = 1 then !(decide (0 ≤ x.2) && decide (x.2 < (ln : Int))) else if x.1 = 2 then (x.2 != 0) else if x.1 = 3 then !(decide (0 ≤ x.2) && decide (x.2 < (nn : Int))) else true
theorem within_at0 (x n : Int) (b : Bool) (h : (decide (0 ≤ x) && decide (x < n)) = b) (w : World) : Calls Tryz.prog 56 #[.int .i64 x, .int .i64 n] w fun e w' => e = .returned (.bool b) ∧ ∃ m, w' = w.drewN m := by
  subst h
  exact (within_is x n w).mono (fun e w' h => ⟨h.1, 0, h.2⟩)
theorem noSym_is (b : Nat) (la na : Option Addr) (ln lc nn nc : Nat) (kd n : Int) (w : World) (c0 : w.cell? ⟨b, 0, none⟩ = some (.slice la ln lc)) (c1 : w.cell? ⟨b, 1, none⟩ = some (.slice na nn nc)) :
    Calls Tryz.prog 76 #[.pointer (some ⟨b, 0, none⟩), .agg #[.int .i64 kd, .int .i64 n]] w fun e w' => e = .returned (.bool (noSym ln nn (kd, n))) ∧ Kept w w' := by
  obtain ⟨R, hR⟩ : ∃ R, noSym ln nn (kd, n) = R := ⟨_, rfl⟩
  rw [hR]
  unfold noSym at hR
  dsimp only at hR
  have HK1 := hide1 ((Kept.refl w).alloc #[.int .i64 kd, .int .i64 n] 77)
  have HS1 := hide1 (sy_new w kd n)
  have HC0 := hide1 (grown_cell HK1.out c0)
  have HC1 := hide1 (grown_cell HK1.out c1)
  clear c0 c1
  by_cases h1 : kd = 1
  · subst h1
    rw [if_pos rfl] at hR
    obtain ⟨bb, hbb⟩ : ∃ bb, (decide (0 ≤ n) && decide (n < (ln : Int))) = bb := ⟨_, rfl⟩
    have HWI := hide1 (within_at0 n (ln : Int) bb hbb)
    rw [hbb] at hR
    clear hbb
    cases bb <;>
    · have hR2 := hR
      subst hR2
      clear hR
      go_enter Tryz.func76, Tryz.ntmps76
      go_upto_region 1 with fail
      generalize w.alloc (.cells #[.int .i64 1, .int .i64 n] 77) = W1 at HK1 HS1 HC0 HC1 ⊢
      obtain ⟨⟨s0, s1⟩, -⟩ := HS1.out.facts
      have d0 := HC0.out
      go_wp2_with (go_quiet ((go_at_call 56; exact Calls.quiet_of (HWI.out _))))
      go_ret
      exact ⟨rfl, gtrans HK1.out (drewN_kept _ _)⟩
  rw [if_neg h1] at hR
  have e1 : (kd == 1) = false := by simpa using h1
  by_cases h2 : kd = 2
  · subst h2
    rw [if_pos rfl] at hR
    clear h1 e1
    go_enter Tryz.func76, Tryz.ntmps76
    go_upto_region 1 with fail
    generalize w.alloc (.cells #[.int .i64 2, .int .i64 n] 77) = W1 at HK1 HS1 HC0 HC1 ⊢
    obtain ⟨⟨s0, s1⟩, -⟩ := HS1.out.facts
    go_wp2_with fail
    go_ret
    exact ⟨by rw [← hR]; rfl, HK1.out⟩
  rw [if_neg h2] at hR
  have e2 : (kd == 2) = false := by simpa using h2
  by_cases h3 : kd = 3
  · subst h3
    rw [if_pos rfl] at hR
    obtain ⟨bb, hbb⟩ : ∃ bb, (decide (0 ≤ n) && decide (n < (nn : Int))) = bb := ⟨_, rfl⟩
    have HWI := hide1 (within_at0 n (nn : Int) bb hbb)
    rw [hbb] at hR
    clear hbb h1 h2 e1 e2
    cases bb <;>
    · have hR2 := hR
      subst hR2
      clear hR
      go_enter Tryz.func76, Tryz.ntmps76
      go_upto_region 1 with fail
      generalize w.alloc (.cells #[.int .i64 3, .int .i64 n] 77) = W1 at HK1 HS1 HC0 HC1 ⊢
      obtain ⟨⟨s0, s1⟩, -⟩ := HS1.out.facts
      have d1 := HC1.out
      go_wp2_with (go_quiet ((go_at_call 56; exact Calls.quiet_of (HWI.out _))))
      go_ret
      exact ⟨rfl, gtrans HK1.out (drewN_kept _ _)⟩
  rw [if_neg h3] at hR
  have e3 : (kd == 3) = false := by simpa using h3
  subst hR
  clear h1 h2 h3
  go_enter Tryz.func76, Tryz.ntmps76
  go_upto_region 1 with fail
  generalize w.alloc (.cells #[.int .i64 kd, .int .i64 n] 77) = W1 at HK1 HS1 HC0 HC1 ⊢
  obtain ⟨⟨s0, s1⟩, -⟩ := HS1.out.facts
  go_wp2_with fail
  go_ret
  exact ⟨rfl, HK1.out⟩
def OutU (w : World) (x : Except Flt Unit) (e : Ending) (w' : World) : Prop :=
  (match x with
  | .ok _ => e = .returned (.tuple #[])
  | .error f => e = thrown f.1 f.2.1 f.2.2) ∧ Kept w w'
def prodC (ln nn : Nat) (at_ : Int) (p : ProdM) (ahead : Int) : Except Flt Unit :=
  if (decide (0 ≤ p.1) && decide (p.1 < (nn : Int))) = false then .error (70, at_, prodsW)
  else if p.1 < ahead ∨ ahead + 1 < p.1 then .error (65, at_, prodsW)
  else if p.2.any (noSym ln nn) = true then .error (70, at_, prodsW) else .ok ()
def PrB (w : World) (g : Nat) (l : Int) (v : Value) : Prop := w.heap[g]? = some (.cells #[.int .i64 l, v] 66 (0, 0))
theorem PrB.facts {w : World} {g : Nat} {l : Int} {v : Value} (h : PrB w g l v) : w.cell? ⟨g, 0, none⟩ = some (.int .i64 l) ∧ w.cell? ⟨g, 1, none⟩ = some v := by
  unfold PrB at h
  refine ⟨?_, ?_⟩ <;> simp [World.cell?, h]
theorem PrB.keep {w w' : World} {g : Nat} {l : Int} {v : Value} (h : PrB w g l v) (hk : Kept w w') : PrB w' g l v := (hk.2.2.2.2 g (Array.getElem?_eq_some_iff.1 h).1).trans h
theorem prod_is (b : Nat) (la na ra : Option Addr) (ln lc nn nc rn rc : Nat) (at_ : Int) (p : ProdM) (ahead : Int) (ha : -1 ≤ ahead ∧ ahead ≤ 1000000000) (w : World) (c0 : w.cell? ⟨b, 0, none⟩ = some (.slice la ln lc)) (c1 : w.cell? ⟨b, 1, none⟩ = some (.slice na nn nc)) (hr : RightAt w (.slice ra rn rc) p.2) :
    Calls Tryz.prog 57 #[.pointer (some ⟨b, 0, none⟩), .int .i64 at_, .agg #[.int .i64 p.1, .slice ra rn rc], .int .i64 ahead] w (OutU w (prodC ln nn at_ p ahead)) := by
  obtain ⟨R, hR⟩ : ∃ R, prodC ln nn at_ p ahead = R := ⟨_, rfl⟩
  rw [hR]
  unfold prodC at hR
  obtain ⟨pl, row⟩ := p
  dsimp only at hR hr ⊢
  have HK1 := hide1 ((Kept.refl w).alloc #[.int .i64 pl, .slice ra rn rc] 66)
  have HP1 : Hid (PrB (w.alloc (.cells #[.int .i64 pl, .slice ra rn rc] 66)) w.heap.size pl (.slice ra rn rc)) := heap_alloc_new w _
  have HC0 := hide1 (grown_cell HK1.out c0)
  have HC1 := hide1 (grown_cell HK1.out c1)
  have HRR := hide1 (RightAt.keep hr HK1.out)
  obtain ⟨a0, a1⟩ := ha
  obtain ⟨bb, hbb⟩ : ∃ bb, (decide (0 ≤ pl) && decide (pl < (nn : Int))) = bb := ⟨_, rfl⟩
  have HWI := hide1 (within_at0 pl (nn : Int) bb hbb)
  rw [hbb] at hR
  clear hbb c0 c1 hr
  cases bb
  case false =>
    rw [if_pos rfl] at hR
    go_enter Tryz.func57, Tryz.ntmps57
    go_upto_region 1 with fail
    generalize w.alloc (.cells #[.int .i64 pl, .slice ra rn rc] 66) = W1 at HK1 HP1 HC0 HC1 HRR ⊢
    obtain ⟨s0, s1⟩ := HP1.out.facts
    have d1 := HC1.out
    go_wp2_with (first | (go_quiet ((go_at_call 56; exact Calls.quiet_of (HWI.out _)))) | (go_at_call 51; go_must (refine (Gs.fail_is _ _ _ _).mono ?_; rintro e w7 ⟨rfl, hk7⟩; have h9 : OutU w R (thrown 70 at_ ⟨#[112, 114, 111, 100, 117, 99, 116, 105, 111, 110, 115]⟩) w7 := by { rw [← hR]; exact ⟨rfl, gtrans (gtrans HK1.out (drewN_kept _ _)) hk7⟩ }; unfold thrown at h9 ⊢)))
    exact ⟨rfl, h9⟩
  rw [if_neg (by decide)] at hR
  by_cases hw : pl < ahead ∨ ahead + 1 < pl
  · rw [if_pos hw] at hR
    by_cases hw1 : pl < ahead
    · clear hw
      go_enter Tryz.func57, Tryz.ntmps57
      go_upto_region 1 with fail
      generalize w.alloc (.cells #[.int .i64 pl, .slice ra rn rc] 66) = W1 at HK1 HP1 HC0 HC1 HRR ⊢
      obtain ⟨s0, s1⟩ := HP1.out.facts
      have d1 := HC1.out
      go_wp2_with (first | (go_quiet ((go_at_call 56; exact Calls.quiet_of (HWI.out _)))) | (go_at_call 51; go_must (refine (Gs.fail_is _ _ _ _).mono ?_; rintro e w7 ⟨rfl, hk7⟩; have h9 : OutU w R (thrown 65 at_ ⟨#[112, 114, 111, 100, 117, 99, 116, 105, 111, 110, 115]⟩) w7 := by { rw [← hR]; exact ⟨rfl, gtrans (gtrans HK1.out (drewN_kept _ _)) hk7⟩ }; unfold thrown at h9 ⊢)))
      exact ⟨rfl, h9⟩
    · have hw2 : ahead + 1 < pl := by omega
      clear hw
      go_enter Tryz.func57, Tryz.ntmps57
      go_upto_region 1 with fail
      generalize w.alloc (.cells #[.int .i64 pl, .slice ra rn rc] 66) = W1 at HK1 HP1 HC0 HC1 HRR ⊢
      obtain ⟨s0, s1⟩ := HP1.out.facts
      have d1 := HC1.out
      go_wp2_with (first | (go_quiet ((go_at_call 56; exact Calls.quiet_of (HWI.out _)))) | (go_at_call 51; go_must (refine (Gs.fail_is _ _ _ _).mono ?_; rintro e w7 ⟨rfl, hk7⟩; have h9 : OutU w R (thrown 65 at_ ⟨#[112, 114, 111, 100, 117, 99, 116, 105, 111, 110, 115]⟩) w7 := by { rw [← hR]; exact ⟨rfl, gtrans (gtrans HK1.out (drewN_kept _ _)) hk7⟩ }; unfold thrown at h9 ⊢)))
      exact ⟨rfl, h9⟩
  rw [if_neg hw] at hR
  have hw1 : ¬ pl < ahead := fun e => hw (.inl e)
  have hw2 : ¬ ahead + 1 < pl := fun e => hw (.inr e)
  clear hw
  obtain ⟨ab, hab⟩ : ∃ ab, row.any (noSym ln nn) = ab := ⟨_, rfl⟩
  rw [hab] at hR
  have HRN := hide1 (show row.length = rn by obtain ⟨_, _, e1, _⟩ := SliceOf.len0 HRR.out; cases e1; rfl)
  have HCT : Hid (∀ w, RightAt w (.slice ra rn rc) row → w.cell? ⟨b, 0, none⟩ = some (.slice la ln lc) → w.cell? ⟨b, 1, none⟩ = some (.slice na nn nc) → Calls Tryz.prog 75 #[.slice ra rn rc, .func (.func 76) #[.pointer (some ⟨b, 0, none⟩)] #[]] w fun e w' => e = .returned (.bool ab) ∧ Kept w w') := fun w hr k0 k1 =>
    containsSym_is 76 #[.pointer (some ⟨b, 0, none⟩)] (noSym ln nn) ra rn rc row HRN.out ab hab w hr (fun x _ wr hk => noSym_is b la na ln lc nn nc x.1 x.2 wr (grown_cell hk k0) (grown_cell hk k1)) (enters_of Tryz.func76 (by kernel_rfl) rfl)
  have hmf : ∀ (fn : Fn) (first cap : Array Value) (w : World), (Instr.makeFunc fn first cap).run Tryz.prog w = .ok (.func fn first cap) w := fun _ _ _ _ => rfl
  clear hab
  go_enter Tryz.func57, Tryz.ntmps57
  go_upto_region 1 with fail
  generalize w.alloc (.cells #[.int .i64 pl, .slice ra rn rc] 66) = W1 at HK1 HP1 HC0 HC1 HRR ⊢
  obtain ⟨s0, s1⟩ := HP1.out.facts
  have d1 := HC1.out
  cases ab with
  | true =>
    rw [if_pos rfl] at hR
    go_wp2_with (first | (go_quiet ((go_at_call 56; exact Calls.quiet_of (HWI.out _)))) | (go_at_call 75; go_must (refine (HCT.out _ (RightAt.keep HRR.out (drewN_kept _ _)) HC0.out HC1.out).mono ?_; rintro e w6 ⟨rfl, hk6⟩)) | (go_at_call 51; go_must (refine (Gs.fail_is _ _ _ _).mono ?_; rintro e w7 ⟨rfl, hk7⟩; have h9 : OutU w R (thrown 70 at_ ⟨#[112, 114, 111, 100, 117, 99, 116, 105, 111, 110, 115]⟩) w7 := by { rw [← hR]; exact ⟨rfl, gtrans (gtrans (gtrans HK1.out (drewN_kept _ _)) hk6) hk7⟩ }; unfold thrown at h9 ⊢)))
    exact ⟨rfl, h9⟩
  | false =>
    rw [if_neg (by decide)] at hR
    go_wp2_with (first | (go_quiet ((go_at_call 56; exact Calls.quiet_of (HWI.out _)))) | (go_at_call 75; go_must (refine (HCT.out _ (RightAt.keep HRR.out (drewN_kept _ _)) HC0.out HC1.out).mono ?_; rintro e w6 ⟨rfl, hk6⟩)))
    go_end0
    rw [← hR]
    exact ⟨rfl, gtrans (gtrans HK1.out (drewN_kept _ _)) hk6⟩
end Gu
end Ex
end Go.Proofs.YtbnchnlogikecaaGreatDoor
