import Derived.Test.YtbnchnlogikecaaGreatDoorPGs4
import Derived.Deep.DeepMust
import Derived.Deep.Cut
import Derived.BigQuiet
import Derived.Deep.RegionHeld3
import Derived.Laws.EntriesVeiled
import Derived.WalkSmall
import Derived.Test.YtbnchnlogikecaaGreatDoorPSpSz2
namespace Go.Proofs.YtbnchnlogikecaaGreatDoor
open Go.RowKit
attribute [local go_sem] Oper.semAt_some
set_option linter.unusedVariables false
set_option linter.unusedSimpArgs false
set_option maxRecDepth 100000
set_option maxHeartbeats 4000000
namespace Ex
namespace Gs
def stW : Nat → ByteArray
  | 0 => ⟨#[116, 111, 107, 101, 110]⟩
  | 1 => ⟨#[115, 107, 105, 112]⟩
  | _ => ⟨#[115, 116, 97, 114, 116]⟩
def stN : Nat → Nat
  | 0 => 102
  | 1 => 104
  | _ => 105
def stF (j : Nat) : Value := .func (.func (stN j)) #[] #[]
def StAt (w : World) (g : Nat) : Prop := ∀ j, j < 3 → w.cell? ⟨g, j * 2, none⟩ = some (.string (stW j)) ∧ w.cell? ⟨g, j * 2 + 1, none⟩ = some (stF j)
theorem StAt.keep {w w' : World} {g : Nat} (h : StAt w g) (hk : Kept w w') : StAt w' g := fun j hj => ⟨grown_cell hk (h j hj).1, grown_cell hk (h j hj).2⟩
theorem statements_is (w : World) :
    Calls Tryz.prog 88 #[] w fun e w' => ∃ g, e = .returned (.slice (some ⟨g, 0, none⟩) 3 3) ∧ StAt w' g ∧ Kept w w' := by
  go_enter Tryz.func88, Tryz.ntmps88
  go_wp2_with fail
  go_ret
  refine ⟨_, rfl, fun j hj => ?_, (Kept.refl w).alloc _ _⟩
  have hg := heap_alloc_new w (.cells #[.string (stW 0), stF 0, .string (stW 1), stF 1, .string (stW 2), stF 2] 133)
  have hc : ∀ o u, (#[Value.string (stW 0), stF 0, .string (stW 1), stF 1, .string (stW 2), stF 2])[o]? = some u → (w.alloc (.cells #[.string (stW 0), stF 0, .string (stW 1), stF 1, .string (stW 2), stF 2] 133)).cell? ⟨w.heap.size, o, none⟩ = some u := fun o u h => by
    unfold World.cell?
    simp only [hg]
    exact h
  match j, hj with
  | 0, _ => exact ⟨hc 0 _ rfl, hc 1 _ rfl⟩
  | 1, _ => exact ⟨hc 2 _ rfl, hc 3 _ rfl⟩
  | 2, _ => exact ⟨hc 4 _ rfl, hc 5 _ rfl⟩
def stOf (wd : ByteArray) : Nat := if stW 0 = wd then 0 else if stW 1 = wd then 1 else if stW 2 = wd then 2 else 3
def stV (wd : ByteArray) : Value := if stOf wd < 3 then .agg #[.string (stW (stOf wd)), stF (stOf wd)] else .agg #[.string ⟨#[]⟩, .nilFunc]
def FnB (w : World) (g : Nat) (s : ByteArray) (f : Value) : Prop := w.heap[g]? = some (.cells #[.string s, f] 133 (0, 0))
theorem FnB.facts {w : World} {g : Nat} {s : ByteArray} {f : Value} (h : FnB w g s f) : (w.cell? ⟨g, 0, none⟩ = some (.string s) ∧ w.cell? ⟨g, 1, none⟩ = some f) ∧ w.frozen? ⟨g, 0, none⟩ = false ∧ w.frozen? ⟨g, 1, none⟩ = false := by
  unfold FnB at h
  refine ⟨⟨?_, ?_⟩, ?_, ?_⟩ <;> simp [World.cell?, World.frozen?, h]
theorem FnB.keep {w w' : World} {g : Nat} {s : ByteArray} {f : Value} (h : FnB w g s f) (hk : Kept w w') : FnB w' g s f := (hk.2.2.2.2 g (Array.getElem?_eq_some_iff.1 h).1).trans h
theorem FnB.set {w : World} {g : Nat} {s : ByteArray} {f : Value} (h : FnB w g s f) (s' : ByteArray) (f' : Value) : FnB ((w.setCell ⟨g, 0, none⟩ (.string s')).setCell ⟨g, 1, none⟩ f') g s' f' := by
  have hl := (Array.getElem?_eq_some_iff.1 h).1
  unfold FnB at h ⊢
  have he : w.heap[g] = Obj.cells #[.string s, f] 133 (0, 0) := by rw [Array.getElem?_eq_getElem hl] at h; exact Option.some.inj h
  simp [World.setCell, Array.getElem_modify, hl, he]
theorem st_results {fn : Func} {p q : Tmp} (h : fn.results = #[.cell p 133, .tmp q]) (tmps : Array Value) (w : World) (g : Nat) (s : ByteArray) (f : Value) (b : Bool)
    (hp : tmps.getD p undef = .pointer (some ⟨g, 0, none⟩)) (hg : FnB w g s f) (hq : tmps.getD q undef = .bool b) :
    (results fn tmps).run Tryz.prog w = .ok (.tuple #[.agg #[.string s, f], .bool b]) w := by
  have hp2 : tmps[p]?.getD undef = .pointer (some ⟨g, 0, none⟩) := by simpa using hp
  have hq2 : tmps[q]?.getD undef = .bool b := by simpa using hq
  have e1 := run_loadVar_row (P := Tryz.prog) w g 133 133 _ (0, 0) _ hg Tryz.underlying133 rfl (by kernel_rfl)
  simp [results, h, hp2, hq2, asAddr, e1]
theorem bytes_ne {s t : ByteArray} (h : ¬ s = t) : (s.toList == t.toList) = false := by
  rw [beq_eq_false_iff_ne]
  intro e
  rw [ByteArray.toList_eq, ByteArray.toList_eq] at e
  exact h (ByteArray.ext (Array.toList_inj.1 e))
theorem keep_new {w W : World} {g o : Nat} {x : Value} (h : Kept w W) (hg : w.heap.size ≤ g) : Kept w (W.setCell ⟨g, o, none⟩ x) :=
  ⟨h.1, h.2.1, h.2.2.1, by simp [World.setCell]; exact h.2.2.2.1, fun d hd => (Below.heap_setCell _ _ _ _ (show d ≠ g by omega)).trans (h.2.2.2.2 d hd)⟩
theorem stOf_at {wd : ByteArray} {j : Nat} (hj : j < 3) (hn : ∀ t, t < j → stW t ≠ wd) (he : stW j = wd) : stOf wd = j := by
  unfold stOf
  match j, hj with
  | 0, _ => rw [if_pos he]
  | 1, _ => rw [if_neg (hn 0 (by omega)), if_pos he]
  | 2, _ => rw [if_neg (hn 0 (by omega)), if_neg (hn 1 (by omega)), if_pos he]
theorem stOf_no {wd : ByteArray} (hn : ∀ t, t < 3 → stW t ≠ wd) : stOf wd = 3 := by
  unfold stOf
  rw [if_neg (hn 0 (by omega)), if_neg (hn 1 (by omega)), if_neg (hn 2 (by omega))]
theorem statementOf_is (wd : ByteArray) (w : World) :
    Calls Tryz.prog 71 #[.string wd] w fun e w' => e = .returned (.tuple #[stV wd, .bool (decide (stOf wd < 3))]) ∧ Kept w w' := by
  have HB0 := hide1 (show FnB (w.alloc (.cells #[.string ⟨#[]⟩, .nilFunc] 133)) w.heap.size ⟨#[]⟩ .nilFunc from heap_alloc_new w _)
  have HK0 := hide1 ((Kept.refl w).alloc #[.string ⟨#[]⟩, .nilFunc] 133)
  go_enter Tryz.func71, Tryz.ntmps71
  go_upto_region 1 with fail
  obtain ⟨gf, hgf⟩ : ∃ gf, w.heap.size = gf := ⟨_, rfl⟩
  have HGF := hide1 hgf
  generalize w.alloc (.cells #[.string ⟨#[]⟩, .nilFunc] 133) = W0 at HB0 HK0 ⊢
  rw [hgf] at HB0 ⊢
  clear hgf
  go_wp2_with (go_at_call 88; refine (statements_is _).mono ?_; rintro e w1 ⟨g, rfl, hst, hk1⟩; have HST := hide1 hst; have HK1 := hide1 (gtrans HK0.out hk1); have HB1 := hide1 (HB0.out.keep hk1); clear hst hk1)
  go_loopw [8] (fun i wr => ∃ j : Nat, i = .int .i64 (j : Int) ∧ j ≤ 3 ∧ Hid (∀ t, t < j → stW t ≠ wd) ∧ Hid (Kept w1 wr)) (fun i _ => 3 - (intOf i).toNat)
  case atStart => exact ⟨0, rfl, by omega, fun t h => by omega, Kept.refl _⟩
  case round =>
    obtain ⟨j, rfl, hj, hn, hk⟩ := hrel
    by_cases hlt : (j : Int) < 3
    · have hj3 : j < 3 := by omega
      obtain ⟨q0, q1⟩ := (HST.out.keep hk.out) j hj3
      obtain ⟨nm, hnm⟩ : ∃ nm, stW j = nm := ⟨_, rfl⟩
      obtain ⟨fn, hfv⟩ : ∃ fn, stN j = fn := ⟨_, rfl⟩
      have HNM := hide1 hnm
      have HFV := hide1 hfv
      rw [hnm] at q0
      unfold stF at q1
      rw [hfv] at q1
      have HB := hide1 (HB1.out.keep hk.out)
      clear hnm hfv
      by_cases he : nm = wd
      · subst he
        have HOF : Hid (stOf nm = j) := stOf_at (by omega) hn.out HNM.out
        have HB2 := hide1 (HB.out.keep ((Kept.refl wr).alloc #[.string nm, .func (.func fn) #[] #[]] 133))
        have HK2 : Hid (Kept w (wr.alloc (.cells #[.string nm, .func (.func fn) #[] #[]] 133))) := (gtrans HK1.out hk.out).alloc _ _
        have HS2 : Hid (FnB (wr.alloc (.cells #[.string nm, .func (.func fn) #[] #[]] 133)) wr.heap.size nm (.func (.func fn) #[] #[])) := heap_alloc_new wr _
        have hj3' : decide (j < 3) = true := decide_eq_true (by omega)
        clear q0 q1 hn
        have q0 := ((HST.out.keep hk.out) j (by omega)).1
        have q1 := ((HST.out.keep hk.out) j (by omega)).2
        rw [HNM.out] at q0
        unfold stF at q1
        rw [HFV.out] at q1
        go_upto_region 4 with fail
        obtain ⟨gs, hgs⟩ : ∃ gs, wr.heap.size = gs := ⟨_, rfl⟩
        generalize wr.alloc (.cells #[.string nm, .func (.func fn) #[] #[]] 133) = W2 at HB2 HK2 HS2 ⊢
        rw [hgs] at HS2 ⊢
        clear q0 q1 hgs
        obtain ⟨⟨r0, r1⟩, x0, x1⟩ := HB2.out.facts
        obtain ⟨⟨s0, s1⟩, y0, y1⟩ := HS2.out.facts
        go_wp2_with fail
        refine bodyPost_ret (st_results rfl _ _ gf _ _ _ rfl (HB2.out.set nm (.func (.func fn) #[] #[])) rfl) rfl ?_
        refine ⟨?_, keep_new (keep_new HK2.out (Nat.le_of_eq HGF.out)) (Nat.le_of_eq HGF.out)⟩
        unfold stV
        rw [HOF.out, if_pos (of_decide_eq_true hj3'), hj3', HNM.out]
        unfold stF
        rw [HFV.out]
      · have hbe := bytes_ne he
        have HN2 : Hid (∀ t, t < j + 1 → stW t ≠ wd) := fun t ht => by
          by_cases h : t = j
          · subst h; rw [HNM.out]; exact he
          · exact hn.out t (by omega)
        clear he hn
        go_wp2_with fail
        exact ⟨⟨j + 1, by go_num, by omega, HN2, hk.out.alloc _ _⟩, by simp [intOf]; omega⟩
    · have HOF : Hid (stOf wd = 3) := stOf_no (fun t ht => hn.out t (by omega))
      have HB := hide1 (HB1.out.keep hk.out)
      obtain ⟨⟨r0, r1⟩, x0, x1⟩ := HB.out.facts
      go_wp2_with fail
      refine bodyPost_ret (st_results rfl _ _ gf _ _ _ rfl (HB.out.set ⟨#[]⟩ .nilFunc) rfl) rfl ?_
      refine ⟨?_, keep_new (keep_new (gtrans HK1.out hk.out) (Nat.le_of_eq HGF.out)) (Nat.le_of_eq HGF.out)⟩
      unfold stV
      rw [HOF.out, if_neg (by omega)]
      rfl
def errW : ByteArray := ⟨#[101, 114, 114, 111, 114]⟩
def resU (wd : ByteArray) : Bool := decide (stOf wd < 3) || decide (wd = errW)
theorem errW_list : errW.toList = [101, 114, 114, 111, 114] := by
  rw [ByteArray.toList_eq]
  rfl
theorem reserved_is (wd : ByteArray) (w : World) :
    Calls Tryz.prog 92 #[.string wd] w fun e w' => e = .returned (.bool (resU wd)) ∧ Kept w w' := by
  unfold resU
  have hb : (wd.toList == [101, 114, 114, 111, 114]) = decide (wd = errW) := by
    by_cases he : wd = errW
    · rw [decide_eq_true he, he, errW_list]; rfl
    · rw [decide_eq_false he]
      have h := bytes_ne he
      rw [errW_list] at h
      exact h
  obtain ⟨eb, heb⟩ : ∃ b, decide (wd = errW) = b := ⟨_, rfl⟩
  rw [heb] at hb ⊢
  clear heb
  by_cases h3 : stOf wd < 3
  · have HST : Hid (∀ w, Calls Tryz.prog 71 #[.string wd] w fun e w' => e = .returned (.tuple #[.agg #[.string (stW (stOf wd)), .func (.func (stN (stOf wd))) #[] #[]], .bool true]) ∧ Kept w w') := fun w => by
      have h := statementOf_is wd w
      unfold stV stF at h
      rw [if_pos h3, decide_eq_true h3] at h
      exact h
    obtain ⟨s0, hs0⟩ : ∃ s, stW (stOf wd) = s := ⟨_, rfl⟩
    obtain ⟨n0, hn0⟩ : ∃ s, stN (stOf wd) = s := ⟨_, rfl⟩
    rw [hs0, hn0] at HST
    rw [decide_eq_true h3]
    clear h3 hs0 hn0
    go_enter Tryz.func92, Tryz.ntmps92
    go_wp2_with (go_at_call 71; go_must (refine (HST.out _).mono ?_; rintro e w6 ⟨rfl, hk6⟩))
    go_ret
    exact ⟨by simp, hk6.alloc _ _⟩
  · have HST : Hid (∀ w, Calls Tryz.prog 71 #[.string wd] w fun e w' => e = .returned (.tuple #[.agg #[.string ⟨#[]⟩, .nilFunc], .bool false]) ∧ Kept w w') := fun w => by
      have h := statementOf_is wd w
      unfold stV at h
      rw [if_neg h3, decide_eq_false h3] at h
      exact h
    rw [decide_eq_false h3]
    clear h3
    go_enter Tryz.func92, Tryz.ntmps92
    go_wp2_with (go_at_call 71; go_must (refine (HST.out _).mono ?_; rintro e w6 ⟨rfl, hk6⟩))
    go_ret
    exact ⟨by simp, hk6.alloc _ _⟩
def thrown (er at_ : Int) (nm : ByteArray) : Ending := .panicked [{ v := .iface 30 (.agg #[.int .i64 er, .int .i64 at_, .string nm]), recovered := false }]
theorem fail_is (er at_ : Int) (nm : ByteArray) (w : World) :
    Calls Tryz.prog 51 #[.int .i64 er, .int .i64 at_, .string nm] w fun e w' => e = thrown er at_ nm ∧ Kept w w' := by
  go_enter Tryz.func51, Tryz.ntmps51
  go_wp2_with fail
  exact ⟨rfl, rfl, Kept.refl _⟩
theorem wrong_is (kd at_ : Int) (wd : ByteArray) (w : World) :
    Calls Tryz.prog 108 #[.agg #[.int .i64 kd, .int .i64 at_, .string wd]] w fun e w' => e = thrown 60 at_ ⟨#[]⟩ ∧ Kept w w' := by
  go_enter Tryz.func108, Tryz.ntmps108
  go_wp2_with (go_at_call 51; go_must (refine (fail_is _ _ _ _).mono ?_; rintro e w6 ⟨rfl, hk6⟩; unfold thrown))
  exact ⟨rfl, rfl, gtrans ((Kept.refl w).alloc _ _) hk6⟩
def nmE (kd : Int) (wd : ByteArray) : Int := if kd ≠ 2 ∨ resU wd = true then 60 else if 64 < wd.size then 2 else 0
theorem fact3 (w : World) (kd at_ : Int) (wd : ByteArray) : TkB (w.alloc (.cells #[.int .i64 kd, .int .i64 at_, .string wd] 104)) w.heap.size kd at_ wd := heap_alloc_new w _
theorem TkB.keep {w w' : World} {g : Nat} {kd pl : Int} {wd : ByteArray} (h : TkB w g kd pl wd) (hk : Kept w w') : TkB w' g kd pl wd := (hk.2.2.2.2 g (Array.getElem?_eq_some_iff.1 h).1).trans h
theorem checkName_ok (kd at_ : Int) (wd : ByteArray) (w : World) (h : nmE kd wd = 0) :
    Calls Tryz.prog 107 #[.agg #[.int .i64 kd, .int .i64 at_, .string wd]] w fun e w' => e = .returned (.tuple #[]) ∧ Kept w w' := by
  unfold nmE at h
  obtain ⟨h1, h2⟩ : ¬ (kd ≠ 2 ∨ resU wd = true) ∧ ¬ 64 < wd.size := by
    split at h
    · cases h
    · split at h
      · cases h
      · exact ⟨by assumption, by assumption⟩
  obtain rfl : kd = 2 := by omega
  have hr : resU wd = false := by simpa using fun e => h1 (.inr e)
  have HR := hide1 hr
  have gs : ¬ (64 : Int) < (wd.size : Int) := by omega
  have HB := hide1 (fact3 w 2 at_ wd)
  have HK := hide1 ((Kept.refl w).alloc #[.int .i64 2, .int .i64 at_, .string wd] 104)
  clear h h1 h2 hr
  go_enter Tryz.func107, Tryz.ntmps107
  go_upto_region 1 with fail
  generalize w.alloc (.cells #[.int .i64 2, .int .i64 at_, .string wd] 104) = W0 at HB HK ⊢
  obtain ⟨⟨t0, t1, t2⟩, -⟩ := HB.out.facts
  go_wp2_with (go_at_call 92; go_must (refine (reserved_is _ _).mono ?_; rintro e w6 ⟨rfl, hk6⟩; rw [HR.out]; have HK6 := hide1 (gtrans HK.out hk6); obtain ⟨⟨u0, u1, u2⟩, -⟩ := (HB.out.keep hk6).facts; clear hk6))
  go_end0
  exact ⟨rfl, HK6.out⟩
theorem checkName_bad (kd at_ : Int) (wd : ByteArray) (w : World) (h : nmE kd wd ≠ 0) :
    Calls Tryz.prog 107 #[.agg #[.int .i64 kd, .int .i64 at_, .string wd]] w fun e w' => e = thrown (nmE kd wd) at_ (if nmE kd wd = 2 then wd.extract 0 64 else ⟨#[]⟩) ∧ Kept w w' := by
  have HB := hide1 (fact3 w kd at_ wd)
  have HK := hide1 ((Kept.refl w).alloc #[.int .i64 kd, .int .i64 at_, .string wd] 104)
  by_cases hk : kd = 2
  · subst hk
    by_cases hr : resU wd = true
    · have he : nmE 2 wd = 60 := by unfold nmE; rw [if_pos (.inr hr)]
      rw [he, if_neg (by decide)]
      have HR := hide1 hr
      clear h he hr
      go_enter Tryz.func107, Tryz.ntmps107
      go_upto_region 1 with fail
      generalize w.alloc (.cells #[.int .i64 2, .int .i64 at_, .string wd] 104) = W0 at HB HK ⊢
      obtain ⟨⟨t0, t1, t2⟩, -⟩ := HB.out.facts
      go_wp2_with (first
        | (go_at_call 92; go_must (refine (reserved_is _ _).mono ?_; rintro e w6 ⟨rfl, hk6⟩; rw [HR.out]; have HK6 := hide1 (gtrans HK.out hk6); obtain ⟨⟨u0, u1, u2⟩, -⟩ := (HB.out.keep hk6).facts; clear hk6))
        | (go_at_call 108; go_must (refine (wrong_is _ _ _ _).mono ?_; rintro e w7 ⟨rfl, hk7⟩; unfold thrown)))
      exact ⟨rfl, rfl, gtrans HK6.out hk7⟩
    · have hr' : resU wd = false := by simpa using hr
      have hs : 64 < wd.size := by
        unfold nmE at h
        rw [if_neg (by simp [hr'])] at h
        split at h
        · assumption
        · exact absurd rfl h
      have he : nmE 2 wd = 2 := by unfold nmE; rw [if_neg (by simp [hr']), if_pos hs]
      rw [he, if_pos rfl]
      have HR := hide1 hr'
      have gs : (64 : Int) < (wd.size : Int) := by omega
      have hsz : ¬ (wd.size : Int) < 64 := by omega
      clear h he hr hr' hs
      go_enter Tryz.func107, Tryz.ntmps107
      go_upto_region 1 with fail
      generalize w.alloc (.cells #[.int .i64 2, .int .i64 at_, .string wd] 104) = W0 at HB HK ⊢
      obtain ⟨⟨t0, t1, t2⟩, -⟩ := HB.out.facts
      go_upto_region 4 with (go_at_call 92; go_must (refine (reserved_is _ _).mono ?_; rintro e w6 ⟨rfl, hk6⟩; rw [HR.out]; have HK6 := hide1 (gtrans HK.out hk6); have HB6 := hide1 (HB.out.keep hk6); obtain ⟨⟨u0, u1, u2⟩, -⟩ := HB6.out.facts; clear hk6))
      refine wp_region_held_drew (S := fun w' => Kept w6 w') (by kernel_rfl) (Kept.refl _) (fun hHeld => ?_)
      refine tkH 0 (.pointer (some ⟨w.heap.size, 1, none⟩)) rfl (fun w' hSw => ?_) ?_
      · clear hSw
        go_simp
      try simp only [layS]
      refine tkH 1 (.int .i64 at_) rfl (fun w' hSw => ?_) ?_
      · obtain ⟨⟨q0, q1, q2⟩, -⟩ := (HB6.out.keep hSw).facts
        go_simp
      try simp only [layS]
      refine tkH 2 (.pointer (some ⟨w.heap.size, 2, none⟩)) rfl (fun w' hSw => ?_) ?_
      · clear hSw
        go_simp
      try simp only [layS]
      refine tkH 3 (.string wd) rfl (fun w' hSw => ?_) ?_
      · obtain ⟨⟨q0, q1, q2⟩, -⟩ := (HB6.out.keep hSw).facts
        go_simp
      try simp only [layS]
      refine tkH 4 (.string (wd.extract 0 64)) rfl (fun w' hSw => ?_) ?_
      · clear hSw
        go_simp
      try simp only [layS]
      refine wpAnyH_ready (rs := [5]) (by kernel_rfl) (by simp) ?_
      refine AllReadyH.cons (i := 5) rfl (fun K hK => ?_) AllReadyH.nil
      go_simp
      refine (fail_is _ _ _ _).mono ?_
      rintro e w7 ⟨rfl, hk7⟩
      unfold thrown
      exact ⟨rfl, rfl, gtrans HK6.out (gtrans hHeld hk7)⟩
  · have he : nmE kd wd = 60 := by unfold nmE; rw [if_pos (.inl hk)]
    rw [he, if_neg (by decide)]
    have hkb : (kd != 2) = true := by simpa using hk
    clear h he hk
    go_enter Tryz.func107, Tryz.ntmps107
    go_upto_region 1 with fail
    generalize w.alloc (.cells #[.int .i64 kd, .int .i64 at_, .string wd] 104) = W0 at HB HK ⊢
    obtain ⟨⟨t0, t1, t2⟩, -⟩ := HB.out.facts
    go_wp2_with (go_at_call 108; go_must (refine (wrong_is _ _ _ _).mono ?_; rintro e w7 ⟨rfl, hk7⟩; unfold thrown))
    exact ⟨rfl, rfl, gtrans HK.out hk7⟩
theorem sign_ok (T : ByteArray) (hT : T.size ≤ 100000) (b k : Nat) (w : World) (hs : ScAt w b T k) (hk : k ≤ T.size) (kd : Int) (hkd : (nextM T k).kd = kd) :
    Calls Tryz.prog 90 #[.pointer (some ⟨b, 0, none⟩), .int .i64 kd] w fun e w' => e = .returned (.tuple #[]) ∧ Mv b (nextM T k).nx w w' := by
  obtain ⟨N, hN⟩ : ∃ N, nextM T k = N := ⟨_, rfl⟩
  have HN := hide1 (next_is T hT b k)
  rw [hN] at hkd HN ⊢
  subst hkd
  have HS := hide1 hs
  have HK := hide1 hk
  have hbw := (Array.getElem?_eq_some_iff.1 hs.choose_spec.choose_spec.1).1
  clear hs hk hT hN
  go_enter Tryz.func90, Tryz.ntmps90
  go_upto_region 2 with (go_at_call 49; go_must (refine (HN.out _ HS.out HK.out).mono ?_; rintro e w1 ⟨rfl, hm1⟩; have HM1 := hide1 hm1; clear hm1))
  go_end0
  exact ⟨rfl, HM1.out.kept HS.out ((Kept.refl _).alloc _ _)⟩
theorem sign_bad (T : ByteArray) (hT : T.size ≤ 100000) (b k : Nat) (w : World) (hs : ScAt w b T k) (hk : k ≤ T.size) (kd : Int) (hkd : (nextM T k).kd ≠ kd) :
    Calls Tryz.prog 90 #[.pointer (some ⟨b, 0, none⟩), .int .i64 kd] w fun e w' => e = thrown 60 ((nextM T k).pl : Int) ⟨#[]⟩ ∧ KeptBut b w w' := by
  obtain ⟨N, hN⟩ : ∃ N, nextM T k = N := ⟨_, rfl⟩
  have HN := hide1 (next_is T hT b k)
  rw [hN] at hkd HN ⊢
  have hne : (N.kd != kd) = true := by simpa using hkd
  have HS := hide1 hs
  have HK := hide1 hk
  have hbw := (Array.getElem?_eq_some_iff.1 hs.choose_spec.choose_spec.1).1
  clear hs hk hT hN hkd
  go_enter Tryz.func90, Tryz.ntmps90
  go_wp2_with (first
    | (go_at_call 49; go_must (refine (HN.out _ HS.out HK.out).mono ?_; rintro e w1 ⟨rfl, hm1⟩; have HM1 := hide1 hm1; clear hm1))
    | (go_at_call 108; go_must (refine (wrong_is _ _ _ _).mono ?_; rintro e w7 ⟨rfl, hk7⟩; unfold thrown)))
  exact ⟨rfl, rfl, (HM1.out.kept HS.out (gtrans ((Kept.refl _).alloc _ _) hk7)).1⟩
def paE (N : Tok) : Int := if N.kd = 2 ∧ N.wd ≠ errW then nmE 2 N.wd else if N.kd ≠ 2 ∧ N.kd ≠ 124 ∧ N.kd ≠ 59 then 60 else 0
theorem part_ok (T : ByteArray) (hT : T.size ≤ 100000) (b k : Nat) (w : World) (hs : ScAt w b T k) (hk : k ≤ T.size) (hp : paE (nextM T k) = 0) :
    Calls Tryz.prog 109 #[.pointer (some ⟨b, 0, none⟩)] w fun e w' => e = .returned (.agg #[.int .i64 (nextM T k).kd, .int .i64 ((nextM T k).pl : Int), .string (nextM T k).wd]) ∧ Mv b (nextM T k).nx w w' := by
  obtain ⟨N, hN⟩ : ∃ N, nextM T k = N := ⟨_, rfl⟩
  have HN := hide1 (next_is T hT b k)
  rw [hN] at hp HN ⊢
  obtain ⟨kd, pl, wd, nx⟩ := N
  dsimp only at HN ⊢
  unfold paE at hp
  dsimp only at hp
  have HS := hide1 hs
  have HK := hide1 hk
  have hbw := (Array.getElem?_eq_some_iff.1 hs.choose_spec.choose_spec.1).1
  clear hs hk hT hN
  go_enter Tryz.func109, Tryz.ntmps109
  have hbg : w.heap.size ≠ b := by omega
  have HB0 := hide1 (show TkB (w.alloc (.cells #[.int .i64 0, .int .i64 0, .string ⟨#[]⟩] 104)) w.heap.size 0 0 ⟨#[]⟩ from heap_alloc_new w _)
  have HM0 : Hid (Mv b k w (w.alloc (.cells #[.int .i64 0, .int .i64 0, .string ⟨#[]⟩] 104))) := (Mv.refl HS.out).kept HS.out ((Kept.refl w).alloc _ _)
  go_upto_region 1 with fail
  obtain ⟨gt, hgt⟩ : ∃ gt, w.heap.size = gt := ⟨_, rfl⟩
  have HGT := hide1 hgt
  generalize w.alloc (.cells #[.int .i64 0, .int .i64 0, .string ⟨#[]⟩] 104) = W0 at HB0 HM0 ⊢
  rw [hgt] at HB0 hbg ⊢
  clear hgt
  go_upto_region 2 with (go_at_call 49; go_must (refine (HN.out _ (HM0.out.at_ HS.out) HK.out).mono ?_; rintro e w1 ⟨rfl, hm1⟩; have HM1 := hide1 (HM0.out.trans hm1); have HB1 := hide1 (HB0.out.mv hm1 hbg); clear hm1))
  have HB2 := hide1 (fact3 w1 kd pl wd)
  have HM2 := hide1 (HM1.out.kept HS.out ((Kept.refl w1).alloc #[.int .i64 kd, .int .i64 (pl : Int), .string wd] 104))
  have HB3 := hide1 (HB1.out.keep ((Kept.refl w1).alloc #[.int .i64 kd, .int .i64 (pl : Int), .string wd] 104))
  have hgt1 : gt < w1.heap.size := (Array.getElem?_eq_some_iff.1 HB1.out).1
  obtain ⟨g2, hg2⟩ : ∃ g2, w1.heap.size = g2 := ⟨_, rfl⟩
  generalize w1.alloc (.cells #[.int .i64 kd, .int .i64 (pl : Int), .string wd] 104) = W2 at HB2 HM2 HB3 ⊢
  rw [hg2] at HB2 hgt1 ⊢
  clear hg2
  obtain ⟨⟨t0, t1, t2⟩, -⟩ := HB2.out.facts
  obtain ⟨⟨r0, r1, r2⟩, x0, x1, x2⟩ := HB3.out.facts
  by_cases h1 : kd = 2
  · subst h1
    by_cases h2 : wd = errW
    · have hb : (wd.toList == [101, 114, 114, 111, 114]) = true := by rw [h2, errW_list]; rfl
      clear h2 hp
      go_wp2_with fail
      have hend := tok_end HM2.out HB3.out (by have := HGT.out; omega) hbg 2 pl wd
      refine bodyPost_ret (tok_returns rfl _ _ gt _ _ _ rfl hend.1) rfl ?_
      exact ⟨rfl, hend.2⟩
    · have hb : (wd.toList == [101, 114, 114, 111, 114]) = false := by
        have h := bytes_ne h2
        rw [errW_list] at h
        exact h
      have HE : Hid (nmE 2 wd = 0) := by rw [if_pos ⟨rfl, h2⟩] at hp; exact hp
      clear h2 hp
      go_wp2_with (go_at_call 107; go_must (refine (checkName_ok _ _ _ _ HE.out).mono ?_; rintro e w6 ⟨rfl, hk6⟩; have HM6 := hide1 (HM2.out.kept HS.out hk6); have HB6 := hide1 (HB3.out.keep hk6); obtain ⟨⟨u0, u1, u2⟩, -⟩ := (HB2.out.keep hk6).facts; obtain ⟨⟨v0, v1, v2⟩, y0, y1, y2⟩ := HB6.out.facts; clear hk6))
      have hend := tok_end HM6.out HB6.out (by have := HGT.out; omega) hbg 2 pl wd
      refine bodyPost_ret (tok_returns rfl _ _ gt _ _ _ rfl hend.1) rfl ?_
      exact ⟨rfl, hend.2⟩
  · rw [if_neg (fun e => h1 e.1)] at hp
    have h3 : kd = 124 ∨ kd = 59 := by
      by_cases h4 : kd ≠ 2 ∧ kd ≠ 124 ∧ kd ≠ 59
      · rw [if_pos h4] at hp; cases hp
      · omega
    clear hp h1
    rcases h3 with rfl | rfl
    · go_wp2_with fail
      have hend := tok_end HM2.out HB3.out (by have := HGT.out; omega) hbg 124 pl wd
      refine bodyPost_ret (tok_returns rfl _ _ gt _ _ _ rfl hend.1) rfl ?_
      exact ⟨rfl, hend.2⟩
    · go_wp2_with fail
      have hend := tok_end HM2.out HB3.out (by have := HGT.out; omega) hbg 59 pl wd
      refine bodyPost_ret (tok_returns rfl _ _ gt _ _ _ rfl hend.1) rfl ?_
      exact ⟨rfl, hend.2⟩
theorem part_bad (T : ByteArray) (hT : T.size ≤ 100000) (b k : Nat) (w : World) (hs : ScAt w b T k) (hk : k ≤ T.size) (hp : paE (nextM T k) ≠ 0) :
    Calls Tryz.prog 109 #[.pointer (some ⟨b, 0, none⟩)] w fun e w' => e = thrown (paE (nextM T k)) ((nextM T k).pl : Int) (if paE (nextM T k) = 2 then (nextM T k).wd.extract 0 64 else ⟨#[]⟩) ∧ KeptBut b w w' := by
  obtain ⟨N, hN⟩ : ∃ N, nextM T k = N := ⟨_, rfl⟩
  have HN := hide1 (next_is T hT b k)
  rw [hN] at hp HN ⊢
  obtain ⟨kd, pl, wd, nx⟩ := N
  dsimp only at HN ⊢
  obtain ⟨pe, hpe⟩ : ∃ x, paE ⟨kd, pl, wd, nx⟩ = x := ⟨_, rfl⟩
  rw [hpe] at hp ⊢
  obtain ⟨nv, hnv⟩ : ∃ x : ByteArray, (if pe = 2 then wd.extract 0 64 else ⟨#[]⟩) = x := ⟨_, rfl⟩
  rw [hnv]
  have HNV := hide1 hnv
  clear hnv
  unfold paE at hpe
  dsimp only at hpe
  have HS := hide1 hs
  have HK := hide1 hk
  have hbw := (Array.getElem?_eq_some_iff.1 hs.choose_spec.choose_spec.1).1
  clear hs hk hT hN
  go_enter Tryz.func109, Tryz.ntmps109
  have hbg : w.heap.size ≠ b := by omega
  have HB0 := hide1 (show TkB (w.alloc (.cells #[.int .i64 0, .int .i64 0, .string ⟨#[]⟩] 104)) w.heap.size 0 0 ⟨#[]⟩ from heap_alloc_new w _)
  have HM0 : Hid (Mv b k w (w.alloc (.cells #[.int .i64 0, .int .i64 0, .string ⟨#[]⟩] 104))) := (Mv.refl HS.out).kept HS.out ((Kept.refl w).alloc _ _)
  go_upto_region 1 with fail
  obtain ⟨gt, hgt⟩ : ∃ gt, w.heap.size = gt := ⟨_, rfl⟩
  have HGT := hide1 hgt
  generalize w.alloc (.cells #[.int .i64 0, .int .i64 0, .string ⟨#[]⟩] 104) = W0 at HB0 HM0 ⊢
  rw [hgt] at HB0 hbg ⊢
  clear hgt
  go_upto_region 2 with (go_at_call 49; go_must (refine (HN.out _ (HM0.out.at_ HS.out) HK.out).mono ?_; rintro e w1 ⟨rfl, hm1⟩; have HM1 := hide1 (HM0.out.trans hm1); have HB1 := hide1 (HB0.out.mv hm1 hbg); clear hm1))
  have HB2 := hide1 (fact3 w1 kd pl wd)
  have HM2 := hide1 (HM1.out.kept HS.out ((Kept.refl w1).alloc #[.int .i64 kd, .int .i64 (pl : Int), .string wd] 104))
  have HB3 := hide1 (HB1.out.keep ((Kept.refl w1).alloc #[.int .i64 kd, .int .i64 (pl : Int), .string wd] 104))
  have hgt1 : gt < w1.heap.size := (Array.getElem?_eq_some_iff.1 HB1.out).1
  obtain ⟨g2, hg2⟩ : ∃ g2, w1.heap.size = g2 := ⟨_, rfl⟩
  generalize w1.alloc (.cells #[.int .i64 kd, .int .i64 (pl : Int), .string wd] 104) = W2 at HB2 HM2 HB3 ⊢
  rw [hg2] at HB2 hgt1 ⊢
  clear hg2
  obtain ⟨⟨t0, t1, t2⟩, -⟩ := HB2.out.facts
  obtain ⟨⟨r0, r1, r2⟩, x0, x1, x2⟩ := HB3.out.facts
  by_cases h1 : kd = 2
  · subst h1
    by_cases h2 : wd = errW
    · rw [if_neg (fun e => e.2 h2), if_neg (fun e => e.1 rfl)] at hpe
      exact absurd hpe.symm hp
    · have hb : (wd.toList == [101, 114, 114, 111, 114]) = false := by
        have h := bytes_ne h2
        rw [errW_list] at h
        exact h
      rw [if_pos ⟨rfl, h2⟩] at hpe
      have HE := hide1 (show nmE 2 wd ≠ 0 by rw [hpe]; exact hp)
      have HPE := hide1 hpe
      clear h2 hp hpe
      go_wp2_with (go_at_call 107; go_must (refine (checkName_bad _ _ _ _ HE.out).mono ?_; rintro e w6 ⟨rfl, hk6⟩; rw [HPE.out, HNV.out]; unfold thrown))
      exact ⟨rfl, rfl, (HM2.out.kept HS.out hk6).1⟩
  · rw [if_neg (fun e => h1 e.1)] at hpe
    have h3 : kd ≠ 124 ∧ kd ≠ 59 := by
      by_cases h4 : kd ≠ 2 ∧ kd ≠ 124 ∧ kd ≠ 59
      · exact h4.2
      · rw [if_neg h4] at hpe
        exact absurd hpe.symm hp
    rw [if_pos ⟨h1, h3⟩] at hpe
    have hnv := HNV.out
    rw [← hpe, if_neg (by decide)] at hnv
    subst hnv
    subst hpe
    have e1 : (kd == 2) = false := by simpa using h1
    have e1' : (kd != 2) = true := by simpa using h1
    have e2 : (kd != 124) = true := by simpa using h3.1
    have e3 : (kd != 59) = true := by simpa using h3.2
    clear hp h1 h3
    go_wp2_with (go_at_call 108; go_must (refine (wrong_is _ _ _ _).mono ?_; rintro e w7 ⟨rfl, hk7⟩; unfold thrown))
    exact ⟨rfl, rfl, (HM2.out.kept HS.out hk7).1⟩
def closF (T : ByteArray) : Nat → Nat → Option Nat
  | 0, _ => none
  | f + 1, i => if i < T.size then (if peekP T i = 92 then closF T f (i + 2) else if peekP T i = 47 then some i else closF T f (i + 1)) else none
def closU (T : ByteArray) (o : Nat) : Option Nat := closF T (T.size + 1) (o + 1)
theorem clos_step {T : ByteArray} {f i : Nat} (h : i < T.size) (hf : T.size - i ≤ f) : ∃ f', T.size - (i + 1) ≤ f' ∧ closF T f i = if peekP T i = 92 then closF T f' (i + 2) else if peekP T i = 47 then some i else closF T f' (i + 1) := by
  obtain ⟨g, rfl⟩ : ∃ g, f = g + 1 := ⟨f - 1, by omega⟩
  exact ⟨g, by omega, by rw [closF, if_pos h]⟩
theorem clos_end {T : ByteArray} {f i : Nat} (h : ¬ i < T.size) : closF T f i = none := by
  cases f with
  | zero => rfl
  | succ f => rw [closF, if_neg h]
theorem closing_is (T : ByteArray) (hT : T.size ≤ 100000) (b k o : Nat) (w : World) (hs : ScAt w b T k) (ho : o < T.size) :
    Calls Tryz.prog 120 #[.pointer (some ⟨b, 0, none⟩), .int .i64 (o : Int)] w fun e w' => (match closU T o with
      | some i => i < T.size ∧ o < i ∧ e = .returned (.tuple #[.int .i64 (i : Int), .bool (decide (firstIdx (T.extract o i) 10 < 0))])
      | none => e = .returned (.tuple #[.int .i64 0, .bool false])) ∧ Kept w w' := by
  have HS := hide1 hs
  have gT : (T.size : Int) ≤ 100000 := by omega
  have go' : (o : Int) < (T.size : Int) := by omega
  have hbw := (Array.getElem?_eq_some_iff.1 hs.choose_spec.choose_spec.1).1
  obtain ⟨cl, hcl⟩ : ∃ c, closU T o = c := ⟨_, rfl⟩
  have HCL := hide1 hcl
  rw [hcl]
  have HO := hide1 ho
  clear hs hT hcl ho
  go_enter Tryz.func120, Tryz.ntmps120
  go_wp2_with fail
  go_loopw [6] (fun iv wr => ∃ (i f : Nat), iv = .int .i64 (i : Int) ∧ o < i ∧ i ≤ T.size + 1 ∧ Hid (T.size - i ≤ f) ∧ Hid (closF T f i = cl) ∧ Hid (Kept w wr)) (fun iv _ => T.size + 1 - (intOf iv).toNat)
  case atStart => exact ⟨o + 1, T.size + 1, by go_num, by omega, by have := HO.out; omega, (show _ ≤ _ by omega), HCL.out, Kept.refl _⟩
  case round =>
    obtain ⟨i, f, rfl, hoi, hi, hf, hq, hk⟩ := hrel
    obtain ⟨c, t, hc⟩ := HS.out
    have HS2 : Hid (ScAt wr b T k) := ⟨c, t, (hk.out.2.2.2.2 b hbw).trans hc.1, hc.2⟩
    obtain ⟨c0, c1, z1⟩ := HS2.out.cells
    have hbr := (Array.getElem?_eq_some_iff.1 HS2.out.choose_spec.choose_spec.1).1
    clear hc
    by_cases hlt : (i : Int) < (T.size : Int)
    · have hil : i < T.size := by omega
      have hpk : peekP T (i : Int) = ((T[i]'hil).toNat : Int) := by unfold peekP; rw [dif_pos (by omega)]; rfl
      obtain ⟨f', hf', hst⟩ := clos_step hil hf.out
      rw [hpk, hq.out] at hst
      obtain ⟨ch, hch⟩ : ∃ c, ((T[i]'hil).toNat : Int) = c := ⟨_, rfl⟩
      rw [hch] at hst
      have HF := hide1 hf'
      clear hpk hq hf hf'
      by_cases h92 : ch = 92
      · rw [if_pos h92] at hst
        subst h92
        have HQ := hide1 hst.symm
        clear hst
        go_wp2_with (go_quiet (fail))
        exact ⟨⟨i + 2, f', by congr 1, by omega, by omega, (show _ ≤ _ by have := HF.out; omega), HQ, hk⟩, by simp [intOf]; omega⟩
      · rw [if_neg h92] at hst
        have e92 : (ch == 92) = false := by simpa using h92
        by_cases h47 : ch = 47
        · rw [if_pos h47] at hst
          subst hst
          subst h47
          obtain ⟨fi, hfi⟩ : ∃ fi, firstIdx (T.extract o i) 10 = fi := ⟨_, rfl⟩
          have HFI := hide1 hfi
          have HIX : Hid (∀ w, Calls Tryz.prog 99 #[.string (T.extract o i), .int .u8 10] w fun e w' => e = .returned (.int .i64 fi) ∧ ∃ m, w' = w.drewN m) := fun w => (index_is (T.extract o i) 10 w).mono (fun e w' h => ⟨by rw [h.1, ← hfi]; rfl, 0, h.2⟩)
          have goi : (o : Int) ≤ (i : Int) := by omega
          have gis : (i : Int) ≤ (T.size : Int) := by omega
          clear hfi h92
          go_wp2_with (go_at_call 99; refine (HIX.out _).mono ?_; rintro e w6 ⟨rfl, m6, rfl⟩)
          go_ret2
          rw [HFI.out]
          first
            | exact ⟨rfl, hk.out⟩
            | exact ⟨⟨hil, hoi, rfl⟩, hk.out⟩
            | exact hk.out
            | trace_state
        · rw [if_neg h47] at hst
          have e47 : (ch == 47) = false := by simpa using h47
          have HQ := hide1 hst.symm
          clear hst h92 h47
          go_wp2_with (go_quiet (fail))
          exact ⟨⟨i + 1, f', by congr 1, by omega, by omega, (show _ ≤ _ by exact HF.out), HQ, hk⟩, by simp [intOf]; omega⟩
    · have hce := clos_end (T := T) (f := f) (i := i) (by omega)
      have hcn : none = cl := hce.symm.trans hq.out
      subst hcn
      clear hq hce
      go_wp2_with (go_quiet (fail))
      go_ret2
      first
        | exact ⟨rfl, hk.out⟩
        | exact hk.out
        | trace_state
end Gs
end Ex
end Go.Proofs.YtbnchnlogikecaaGreatDoor
