import Derived.Test.YtbnchnlogikecaaGreatDoorMGs4
import Derived.Deep.DeepMust
import Derived.Deep.Cut
import Derived.BigQuiet
import Derived.Deep.RegionHeld3
import Derived.Laws.EntriesVeiled
import Derived.WalkSmall
namespace Go.Proofs.YtbnchnlogikecaaGreatDoor
open Go.RowKit
attribute [local go_sem] Oper.semAt_some
set_option linter.unusedVariables false
namespace Ex
namespace Gs

/-- The words that begin a statement, and what reads the rest of it. -/
def stW : Nat → ByteArray
  | 0 => ⟨#[116, 111, 107, 101, 110]⟩
  | 1 => ⟨#[115, 107, 105, 112]⟩
  | _ => ⟨#[115, 116, 97, 114, 116]⟩
def stN : Nat → Nat
  | 0 => 102
  | 1 => 104
  | _ => 105
def stF (j : Nat) : Value := .func (.func (stN j)) #[] #[]
/-- The statements lie at g. -/
def StAt (w : World) (g : Nat) : Prop := ∀ j, j < 3 → w.cell? ⟨g, j * 2, none⟩ = some (.string (stW j)) ∧ w.cell? ⟨g, j * 2 + 1, none⟩ = some (stF j)
theorem StAt.keep {w w' : World} {g : Nat} (h : StAt w g) (hk : Kept w w') : StAt w' g := fun j hj => ⟨grown_cell hk (h j hj).1, grown_cell hk (h j hj).2⟩
set_option linter.unusedSimpArgs false in
set_option maxRecDepth 100000 in
set_option maxHeartbeats 4000000 in
theorem statements_is (w : World) :
    Calls Tryz.prog 88 #[] w fun e w' => ∃ g, e = .returned (.slice (some ⟨g, 0, none⟩) 3 3) ∧ StAt w' g ∧ Kept w w' := by
  go_enter Tryz.func88, Tryz.ntmps88
  go_wp2_with fail
  go_ret
  refine ⟨_, rfl, fun j hj => ?_, (Kept.refl w).alloc _ _⟩
  have hg := heap_alloc_new w (.cells #[.string (stW 0), stF 0, .string (stW 1), stF 1, .string (stW 2), stF 2] 133)
  have hc : ∀ o u, (#[Value.string (stW 0), stF 0, .string (stW 1), stF 1, .string (stW 2), stF 2])[o]? = some u → (w.alloc (.cells #[.string (stW 0), stF 0, .string (stW 1), stF 1, .string (stW 2), stF 2] 133)).cell? ⟨w.heap.size, o, none⟩ = some u := fun o u h => by
    unfold World.cell?
    simp only [hg]
    exact h
  match j, hj with
  | 0, _ => exact ⟨hc 0 _ rfl, hc 1 _ rfl⟩
  | 1, _ => exact ⟨hc 2 _ rfl, hc 3 _ rfl⟩
  | 2, _ => exact ⟨hc 4 _ rfl, hc 5 _ rfl⟩
/-- Which statement a word begins; 3: none. -/
def stOf (wd : ByteArray) : Nat := if stW 0 = wd then 0 else if stW 1 = wd then 1 else if stW 2 = wd then 2 else 3
def stV (wd : ByteArray) : Value := if stOf wd < 3 then .agg #[.string (stW (stOf wd)), stF (stOf wd)] else .agg #[.string ⟨#[]⟩, .nilFunc]
/-- A statement in its box. -/
def FnB (w : World) (g : Nat) (s : ByteArray) (f : Value) : Prop := w.heap[g]? = some (.cells #[.string s, f] 133 (0, 0))
theorem FnB.facts {w : World} {g : Nat} {s : ByteArray} {f : Value} (h : FnB w g s f) : (w.cell? ⟨g, 0, none⟩ = some (.string s) ∧ w.cell? ⟨g, 1, none⟩ = some f) ∧ w.frozen? ⟨g, 0, none⟩ = false ∧ w.frozen? ⟨g, 1, none⟩ = false := by
  unfold FnB at h
  refine ⟨⟨?_, ?_⟩, ?_, ?_⟩ <;> simp [World.cell?, World.frozen?, h]
theorem FnB.keep {w w' : World} {g : Nat} {s : ByteArray} {f : Value} (h : FnB w g s f) (hk : Kept w w') : FnB w' g s f := (hk.2.2.2.2 g (Array.getElem?_eq_some_iff.1 h).1).trans h
theorem FnB.set {w : World} {g : Nat} {s : ByteArray} {f : Value} (h : FnB w g s f) (s' : ByteArray) (f' : Value) : FnB ((w.setCell ⟨g, 0, none⟩ (.string s')).setCell ⟨g, 1, none⟩ f') g s' f' := by
  have hl := (Array.getElem?_eq_some_iff.1 h).1
  unfold FnB at h ⊢
  have he : w.heap[g] = Obj.cells #[.string s, f] 133 (0, 0) := by rw [Array.getElem?_eq_getElem hl] at h; exact Option.some.inj h
  simp [World.setCell, Array.getElem_modify, hl, he]
theorem st_results {fn : Func} {p q : Tmp} (h : fn.results = #[.cell p 133, .tmp q]) (tmps : Array Value) (w : World) (g : Nat) (s : ByteArray) (f : Value) (b : Bool)
    (hp : tmps.getD p undef = .pointer (some ⟨g, 0, none⟩)) (hg : FnB w g s f) (hq : tmps.getD q undef = .bool b) :
    (results fn tmps).run Tryz.prog w = .ok (.tuple #[.agg #[.string s, f], .bool b]) w := by
  have hp2 : tmps[p]?.getD undef = .pointer (some ⟨g, 0, none⟩) := by simpa using hp
  have hq2 : tmps[q]?.getD undef = .bool b := by simpa using hq
  have e1 := run_loadVar_row (P := Tryz.prog) w g 133 133 _ (0, 0) _ hg Tryz.underlying133 rfl (by kernel_rfl)
  simp [results, h, hp2, hq2, asAddr, e1]
theorem bytes_ne {s t : ByteArray} (h : ¬ s = t) : (s.toList == t.toList) = false := by
  rw [beq_eq_false_iff_ne]
  intro e
  rw [ByteArray.toList_eq, ByteArray.toList_eq] at e
  exact h (ByteArray.ext (Array.toList_inj.1 e))
theorem keep_new {w W : World} {g o : Nat} {x : Value} (h : Kept w W) (hg : w.heap.size ≤ g) : Kept w (W.setCell ⟨g, o, none⟩ x) :=
  ⟨h.1, h.2.1, h.2.2.1, by simp [World.setCell]; exact h.2.2.2.1, fun d hd => (Below.heap_setCell _ _ _ _ (show d ≠ g by omega)).trans (h.2.2.2.2 d hd)⟩
theorem stOf_at {wd : ByteArray} {j : Nat} (hj : j < 3) (hn : ∀ t, t < j → stW t ≠ wd) (he : stW j = wd) : stOf wd = j := by
  unfold stOf
  match j, hj with
  | 0, _ => rw [if_pos he]
  | 1, _ => rw [if_neg (hn 0 (by omega)), if_pos he]
  | 2, _ => rw [if_neg (hn 0 (by omega)), if_neg (hn 1 (by omega)), if_pos he]
theorem stOf_no {wd : ByteArray} (hn : ∀ t, t < 3 → stW t ≠ wd) : stOf wd = 3 := by
  unfold stOf
  rw [if_neg (hn 0 (by omega)), if_neg (hn 1 (by omega)), if_neg (hn 2 (by omega))]
set_option linter.unusedSimpArgs false in
set_option maxRecDepth 100000 in
set_option maxHeartbeats 4000000 in
theorem statementOf_is (wd : ByteArray) (w : World) :
    Calls Tryz.prog 71 #[.string wd] w fun e w' => e = .returned (.tuple #[stV wd, .bool (decide (stOf wd < 3))]) ∧ Kept w w' := by
  have HB0 := hide1 (show FnB (w.alloc (.cells #[.string ⟨#[]⟩, .nilFunc] 133)) w.heap.size ⟨#[]⟩ .nilFunc from heap_alloc_new w _)
  have HK0 := hide1 ((Kept.refl w).alloc #[.string ⟨#[]⟩, .nilFunc] 133)
  go_enter Tryz.func71, Tryz.ntmps71
  go_upto_region 1 with fail
  obtain ⟨gf, hgf⟩ : ∃ gf, w.heap.size = gf := ⟨_, rfl⟩
  have HGF := hide1 hgf
  generalize w.alloc (.cells #[.string ⟨#[]⟩, .nilFunc] 133) = W0 at HB0 HK0 ⊢
  rw [hgf] at HB0 ⊢
  clear hgf
  go_wp2_with (go_at_call 88; refine (statements_is _).mono ?_; rintro e w1 ⟨g, rfl, hst, hk1⟩; have HST := hide1 hst; have HK1 := hide1 (gtrans HK0.out hk1); have HB1 := hide1 (HB0.out.keep hk1); clear hst hk1)
  go_loopw [8] (fun i wr => ∃ j : Nat, i = .int .i64 (j : Int) ∧ j ≤ 3 ∧ Hid (∀ t, t < j → stW t ≠ wd) ∧ Hid (Kept w1 wr)) (fun i _ => 3 - (intOf i).toNat)
  case atStart => exact ⟨0, rfl, by omega, fun t h => by omega, Kept.refl _⟩
  case round =>
    obtain ⟨j, rfl, hj, hn, hk⟩ := hrel
    by_cases hlt : (j : Int) < 3
    · have hj3 : j < 3 := by omega
      obtain ⟨q0, q1⟩ := (HST.out.keep hk.out) j hj3
      obtain ⟨nm, hnm⟩ : ∃ nm, stW j = nm := ⟨_, rfl⟩
      obtain ⟨fn, hfv⟩ : ∃ fn, stN j = fn := ⟨_, rfl⟩
      have HNM := hide1 hnm
      have HFV := hide1 hfv
      rw [hnm] at q0
      unfold stF at q1
      rw [hfv] at q1
      have HB := hide1 (HB1.out.keep hk.out)
      clear hnm hfv
      by_cases he : nm = wd
      · subst he
        have HOF : Hid (stOf nm = j) := stOf_at (by omega) hn.out HNM.out
        have HB2 := hide1 (HB.out.keep ((Kept.refl wr).alloc #[.string nm, .func (.func fn) #[] #[]] 133))
        have HK2 : Hid (Kept w (wr.alloc (.cells #[.string nm, .func (.func fn) #[] #[]] 133))) := (gtrans HK1.out hk.out).alloc _ _
        have HS2 : Hid (FnB (wr.alloc (.cells #[.string nm, .func (.func fn) #[] #[]] 133)) wr.heap.size nm (.func (.func fn) #[] #[])) := heap_alloc_new wr _
        have hj3' : decide (j < 3) = true := decide_eq_true (by omega)
        clear q0 q1 hn
        have q0 := ((HST.out.keep hk.out) j (by omega)).1
        have q1 := ((HST.out.keep hk.out) j (by omega)).2
        rw [HNM.out] at q0
        unfold stF at q1
        rw [HFV.out] at q1
        go_upto_region 4 with fail
        obtain ⟨gs, hgs⟩ : ∃ gs, wr.heap.size = gs := ⟨_, rfl⟩
        generalize wr.alloc (.cells #[.string nm, .func (.func fn) #[] #[]] 133) = W2 at HB2 HK2 HS2 ⊢
        rw [hgs] at HS2 ⊢
        clear q0 q1 hgs
        obtain ⟨⟨r0, r1⟩, x0, x1⟩ := HB2.out.facts
        obtain ⟨⟨s0, s1⟩, y0, y1⟩ := HS2.out.facts
        go_wp2_with fail
        refine bodyPost_ret (st_results rfl _ _ gf _ _ _ rfl (HB2.out.set nm (.func (.func fn) #[] #[])) rfl) rfl ?_
        refine ⟨?_, keep_new (keep_new HK2.out (Nat.le_of_eq HGF.out)) (Nat.le_of_eq HGF.out)⟩
        unfold stV
        rw [HOF.out, if_pos (of_decide_eq_true hj3'), hj3', HNM.out]
        unfold stF
        rw [HFV.out]
      · have hbe := bytes_ne he
        have HN2 : Hid (∀ t, t < j + 1 → stW t ≠ wd) := fun t ht => by
          by_cases h : t = j
          · subst h; rw [HNM.out]; exact he
          · exact hn.out t (by omega)
        clear he hn
        go_wp2_with fail
        exact ⟨⟨j + 1, by go_num, by omega, HN2, hk.out.alloc _ _⟩, by simp [intOf]; omega⟩
    · have HOF : Hid (stOf wd = 3) := stOf_no (fun t ht => hn.out t (by omega))
      have HB := hide1 (HB1.out.keep hk.out)
      obtain ⟨⟨r0, r1⟩, x0, x1⟩ := HB.out.facts
      go_wp2_with fail
      refine bodyPost_ret (st_results rfl _ _ gf _ _ _ rfl (HB.out.set ⟨#[]⟩ .nilFunc) rfl) rfl ?_
      refine ⟨?_, keep_new (keep_new (gtrans HK1.out hk.out) (Nat.le_of_eq HGF.out)) (Nat.le_of_eq HGF.out)⟩
      unfold stV
      rw [HOF.out, if_neg (by omega)]
      rfl

end Gs
end Ex
end Go.Proofs.YtbnchnlogikecaaGreatDoor
namespace Go.Proofs.YtbnchnlogikecaaGreatDoor
open Go.RowKit
attribute [local go_sem] Oper.semAt_some
set_option linter.unusedVariables false
namespace Ex
namespace Gs

/-- The word that may stand in right sides alone. -/
def errW : ByteArray := ⟨#[101, 114, 114, 111, 114]⟩
def resU (wd : ByteArray) : Bool := decide (stOf wd < 3) || decide (wd = errW)
theorem errW_list : errW.toList = [101, 114, 114, 111, 114] := by
  rw [ByteArray.toList_eq]
  rfl
set_option linter.unusedSimpArgs false in
set_option maxRecDepth 100000 in
set_option maxHeartbeats 4000000 in
theorem reserved_is (wd : ByteArray) (w : World) :
    Calls Tryz.prog 92 #[.string wd] w fun e w' => e = .returned (.bool (resU wd)) ∧ Kept w w' := by
  unfold resU
  have hb : (wd.toList == [101, 114, 114, 111, 114]) = decide (wd = errW) := by
    by_cases he : wd = errW
    · rw [decide_eq_true he, he, errW_list]; rfl
    · rw [decide_eq_false he]
      have h := bytes_ne he
      rw [errW_list] at h
      exact h
  obtain ⟨eb, heb⟩ : ∃ b, decide (wd = errW) = b := ⟨_, rfl⟩
  rw [heb] at hb ⊢
  clear heb
  by_cases h3 : stOf wd < 3
  · have HST : Hid (∀ w, Calls Tryz.prog 71 #[.string wd] w fun e w' => e = .returned (.tuple #[.agg #[.string (stW (stOf wd)), .func (.func (stN (stOf wd))) #[] #[]], .bool true]) ∧ Kept w w') := fun w => by
      have h := statementOf_is wd w
      unfold stV stF at h
      rw [if_pos h3, decide_eq_true h3] at h
      exact h
    obtain ⟨s0, hs0⟩ : ∃ s, stW (stOf wd) = s := ⟨_, rfl⟩
    obtain ⟨n0, hn0⟩ : ∃ s, stN (stOf wd) = s := ⟨_, rfl⟩
    rw [hs0, hn0] at HST
    rw [decide_eq_true h3]
    clear h3 hs0 hn0
    go_enter Tryz.func92, Tryz.ntmps92
    go_wp2_with (go_at_call 71; go_must (refine (HST.out _).mono ?_; rintro e w6 ⟨rfl, hk6⟩))
    go_ret
    exact ⟨by simp, hk6.alloc _ _⟩
  · have HST : Hid (∀ w, Calls Tryz.prog 71 #[.string wd] w fun e w' => e = .returned (.tuple #[.agg #[.string ⟨#[]⟩, .nilFunc], .bool false]) ∧ Kept w w') := fun w => by
      have h := statementOf_is wd w
      unfold stV at h
      rw [if_neg h3, decide_eq_false h3] at h
      exact h
    rw [decide_eq_false h3]
    clear h3
    go_enter Tryz.func92, Tryz.ntmps92
    go_wp2_with (go_at_call 71; go_must (refine (HST.out _).mono ?_; rintro e w6 ⟨rfl, hk6⟩))
    go_ret
    exact ⟨by simp, hk6.alloc _ _⟩
/-- The fault that is thrown. -/
def thrown (er at_ : Int) (nm : ByteArray) : Ending := .panicked [{ v := .iface 30 (.agg #[.int .i64 er, .int .i64 at_, .string nm]), recovered := false }]
set_option linter.unusedSimpArgs false in
set_option maxRecDepth 100000 in
set_option maxHeartbeats 4000000 in
theorem fail_is (er at_ : Int) (nm : ByteArray) (w : World) :
    Calls Tryz.prog 51 #[.int .i64 er, .int .i64 at_, .string nm] w fun e w' => e = thrown er at_ nm ∧ Kept w w' := by
  go_enter Tryz.func51, Tryz.ntmps51
  go_wp2_with fail
  exact ⟨rfl, rfl, Kept.refl _⟩
set_option linter.unusedSimpArgs false in
set_option maxRecDepth 100000 in
set_option maxHeartbeats 4000000 in
theorem wrong_is (kd at_ : Int) (wd : ByteArray) (w : World) :
    Calls Tryz.prog 108 #[.agg #[.int .i64 kd, .int .i64 at_, .string wd]] w fun e w' => e = thrown 60 at_ ⟨#[]⟩ ∧ Kept w w' := by
  go_enter Tryz.func108, Tryz.ntmps108
  go_wp2_with (go_at_call 51; go_must (refine (fail_is _ _ _ _).mono ?_; rintro e w6 ⟨rfl, hk6⟩; unfold thrown))
  exact ⟨rfl, rfl, gtrans ((Kept.refl w).alloc _ _) hk6⟩

end Gs
end Ex
end Go.Proofs.YtbnchnlogikecaaGreatDoor
namespace Go.Proofs.YtbnchnlogikecaaGreatDoor
open Go.RowKit
attribute [local go_sem] Oper.semAt_some
set_option linter.unusedVariables false
namespace Ex
namespace Gs

/-- Why a token is no name; 0: it is one. -/
def nmE (kd : Int) (wd : ByteArray) : Int := if kd ≠ 2 ∨ resU wd = true then 60 else if 64 < wd.size then 2 else 0
theorem fact3 (w : World) (kd at_ : Int) (wd : ByteArray) : TkB (w.alloc (.cells #[.int .i64 kd, .int .i64 at_, .string wd] 104)) w.heap.size kd at_ wd := heap_alloc_new w _
theorem TkB.keep {w w' : World} {g : Nat} {kd pl : Int} {wd : ByteArray} (h : TkB w g kd pl wd) (hk : Kept w w') : TkB w' g kd pl wd := (hk.2.2.2.2 g (Array.getElem?_eq_some_iff.1 h).1).trans h
set_option linter.unusedSimpArgs false in
set_option maxRecDepth 100000 in
set_option maxHeartbeats 4000000 in
theorem checkName_ok (kd at_ : Int) (wd : ByteArray) (w : World) (h : nmE kd wd = 0) :
    Calls Tryz.prog 107 #[.agg #[.int .i64 kd, .int .i64 at_, .string wd]] w fun e w' => e = .returned (.tuple #[]) ∧ Kept w w' := by
  unfold nmE at h
  obtain ⟨h1, h2⟩ : ¬ (kd ≠ 2 ∨ resU wd = true) ∧ ¬ 64 < wd.size := by
    split at h
    · cases h
    · split at h
      · cases h
      · exact ⟨by assumption, by assumption⟩
  obtain rfl : kd = 2 := by omega
  have hr : resU wd = false := by simpa using fun e => h1 (.inr e)
  have HR := hide1 hr
  have gs : ¬ (64 : Int) < (wd.size : Int) := by omega
  have HB := hide1 (fact3 w 2 at_ wd)
  have HK := hide1 ((Kept.refl w).alloc #[.int .i64 2, .int .i64 at_, .string wd] 104)
  clear h h1 h2 hr
  go_enter Tryz.func107, Tryz.ntmps107
  go_upto_region 1 with fail
  generalize w.alloc (.cells #[.int .i64 2, .int .i64 at_, .string wd] 104) = W0 at HB HK ⊢
  obtain ⟨⟨t0, t1, t2⟩, -⟩ := HB.out.facts
  go_wp2_with (go_at_call 92; go_must (refine (reserved_is _ _).mono ?_; rintro e w6 ⟨rfl, hk6⟩; rw [HR.out]; have HK6 := hide1 (gtrans HK.out hk6); obtain ⟨⟨u0, u1, u2⟩, -⟩ := (HB.out.keep hk6).facts; clear hk6))
  go_end0
  exact ⟨rfl, HK6.out⟩
set_option linter.unusedSimpArgs false in
set_option maxRecDepth 100000 in
set_option maxHeartbeats 4000000 in
theorem checkName_bad (kd at_ : Int) (wd : ByteArray) (w : World) (h : nmE kd wd ≠ 0) :
    Calls Tryz.prog 107 #[.agg #[.int .i64 kd, .int .i64 at_, .string wd]] w fun e w' => e = thrown (nmE kd wd) at_ (if nmE kd wd = 2 then wd.extract 0 64 else ⟨#[]⟩) ∧ Kept w w' := by
  have HB := hide1 (fact3 w kd at_ wd)
  have HK := hide1 ((Kept.refl w).alloc #[.int .i64 kd, .int .i64 at_, .string wd] 104)
  by_cases hk : kd = 2
  · subst hk
    by_cases hr : resU wd = true
    · have he : nmE 2 wd = 60 := by unfold nmE; rw [if_pos (.inr hr)]
      rw [he, if_neg (by decide)]
      have HR := hide1 hr
      clear h he hr
      go_enter Tryz.func107, Tryz.ntmps107
      go_upto_region 1 with fail
      generalize w.alloc (.cells #[.int .i64 2, .int .i64 at_, .string wd] 104) = W0 at HB HK ⊢
      obtain ⟨⟨t0, t1, t2⟩, -⟩ := HB.out.facts
      go_wp2_with (first
        | (go_at_call 92; go_must (refine (reserved_is _ _).mono ?_; rintro e w6 ⟨rfl, hk6⟩; rw [HR.out]; have HK6 := hide1 (gtrans HK.out hk6); obtain ⟨⟨u0, u1, u2⟩, -⟩ := (HB.out.keep hk6).facts; clear hk6))
        | (go_at_call 108; go_must (refine (wrong_is _ _ _ _).mono ?_; rintro e w7 ⟨rfl, hk7⟩; unfold thrown)))
      exact ⟨rfl, rfl, gtrans HK6.out hk7⟩
    · have hr' : resU wd = false := by simpa using hr
      have hs : 64 < wd.size := by
        unfold nmE at h
        rw [if_neg (by simp [hr'])] at h
        split at h
        · assumption
        · exact absurd rfl h
      have he : nmE 2 wd = 2 := by unfold nmE; rw [if_neg (by simp [hr']), if_pos hs]
      rw [he, if_pos rfl]
      have HR := hide1 hr'
      have gs : (64 : Int) < (wd.size : Int) := by omega
      have hsz : ¬ (wd.size : Int) < 64 := by omega
      clear h he hr hr' hs
      go_enter Tryz.func107, Tryz.ntmps107
      go_upto_region 1 with fail
      generalize w.alloc (.cells #[.int .i64 2, .int .i64 at_, .string wd] 104) = W0 at HB HK ⊢
      obtain ⟨⟨t0, t1, t2⟩, -⟩ := HB.out.facts
      go_upto_region 4 with (go_at_call 92; go_must (refine (reserved_is _ _).mono ?_; rintro e w6 ⟨rfl, hk6⟩; rw [HR.out]; have HK6 := hide1 (gtrans HK.out hk6); have HB6 := hide1 (HB.out.keep hk6); obtain ⟨⟨u0, u1, u2⟩, -⟩ := HB6.out.facts; clear hk6))
      refine wp_region_held_drew (S := fun w' => Kept w6 w') (by kernel_rfl) (Kept.refl _) (fun hHeld => ?_)
      refine wpAnyH_take (i := 0) (v := .pointer (some ⟨w.heap.size, 1, none⟩)) rfl (by kernel_rfl) (by kernel_rfl) (by kernel_rfl) (fun _ _ _ h => h) (Or.inl ⟨by rfl, fun w' hSw => ?_⟩) (by with_reducible assumption) ?_
      · clear hSw
        go_simp
      try simp only [Act.put, List.getElem_toArray, List.getElem_cons_succ, List.getElem_cons_zero, List.setIfInBounds_toArray, List.set_cons_zero, List.set_cons_succ]
      refine wpAnyH_take (i := 1) (v := .int .i64 at_) rfl (by kernel_rfl) (by kernel_rfl) (by kernel_rfl) (fun _ _ _ h => h) (Or.inl ⟨by rfl, fun w' hSw => ?_⟩) (by with_reducible assumption) ?_
      · obtain ⟨⟨q0, q1, q2⟩, -⟩ := (HB6.out.keep hSw).facts
        go_simp
      try simp only [Act.put, List.getElem_toArray, List.getElem_cons_succ, List.getElem_cons_zero, List.setIfInBounds_toArray, List.set_cons_zero, List.set_cons_succ]
      refine wpAnyH_take (i := 2) (v := .pointer (some ⟨w.heap.size, 2, none⟩)) rfl (by kernel_rfl) (by kernel_rfl) (by kernel_rfl) (fun _ _ _ h => h) (Or.inl ⟨by rfl, fun w' hSw => ?_⟩) (by with_reducible assumption) ?_
      · clear hSw
        go_simp
      try simp only [Act.put, List.getElem_toArray, List.getElem_cons_succ, List.getElem_cons_zero, List.setIfInBounds_toArray, List.set_cons_zero, List.set_cons_succ]
      refine wpAnyH_take (i := 3) (v := .string wd) rfl (by kernel_rfl) (by kernel_rfl) (by kernel_rfl) (fun _ _ _ h => h) (Or.inl ⟨by rfl, fun w' hSw => ?_⟩) (by with_reducible assumption) ?_
      · obtain ⟨⟨q0, q1, q2⟩, -⟩ := (HB6.out.keep hSw).facts
        go_simp
      try simp only [Act.put, List.getElem_toArray, List.getElem_cons_succ, List.getElem_cons_zero, List.setIfInBounds_toArray, List.set_cons_zero, List.set_cons_succ]
      refine wpAnyH_take (i := 4) (v := .string (wd.extract 0 64)) rfl (by kernel_rfl) (by kernel_rfl) (by kernel_rfl) (fun _ _ _ h => h) (Or.inl ⟨by rfl, fun w' hSw => ?_⟩) (by with_reducible assumption) ?_
      · clear hSw
        go_simp
      try simp only [Act.put, List.getElem_toArray, List.getElem_cons_succ, List.getElem_cons_zero, List.setIfInBounds_toArray, List.set_cons_zero, List.set_cons_succ]
      refine wpAnyH_ready (rs := [5]) (by kernel_rfl) (by simp) ?_
      refine AllReadyH.cons (i := 5) rfl (fun K hK => ?_) AllReadyH.nil
      go_simp
      refine (fail_is _ _ _ _).mono ?_
      rintro e w7 ⟨rfl, hk7⟩
      unfold thrown
      exact ⟨rfl, rfl, gtrans HK6.out (gtrans hHeld hk7)⟩
  · have he : nmE kd wd = 60 := by unfold nmE; rw [if_pos (.inl hk)]
    rw [he, if_neg (by decide)]
    have hkb : (kd != 2) = true := by simpa using hk
    clear h he hk
    go_enter Tryz.func107, Tryz.ntmps107
    go_upto_region 1 with fail
    generalize w.alloc (.cells #[.int .i64 kd, .int .i64 at_, .string wd] 104) = W0 at HB HK ⊢
    obtain ⟨⟨t0, t1, t2⟩, -⟩ := HB.out.facts
    go_wp2_with (go_at_call 108; go_must (refine (wrong_is _ _ _ _).mono ?_; rintro e w7 ⟨rfl, hk7⟩; unfold thrown))
    exact ⟨rfl, rfl, gtrans HK.out hk7⟩

end Gs
end Ex
end Go.Proofs.YtbnchnlogikecaaGreatDoor
