import Derived.Test.YtooelfjceehmmaaDoorMSpCe
namespace Go.Proofs.YtooelfjceehmmaaDoor
open Go.RowKit
attribute [local go_sem] Oper.semAt_some
namespace Ex

theorem wrong_good {k : Nat} {lex : List (LexM k)} {nn : Nat} : ∀ {row : List SymM} {i : Nat}, (wrongF lex nn i row).2 = 0 → ∀ x ∈ row, symErr lex nn x = 0
  | [], _, _, x, hx => by cases hx
  | y :: r, i, h, x, hx => by
    unfold wrongF at h
    by_cases e : symErr lex nn y = 0
    · rw [if_pos e] at h
      rcases List.mem_cons.1 hx with rfl | hx
      · exact e
      · exact wrong_good h x hx
    · rw [if_neg e] at h
      exact absurd h e
theorem places_good {k : Nat} {lex : List (LexM k)} {nn : Nat} : ∀ {ps : List ProdM} {i : Nat}, (placesF lex nn i ps).1 = 0 → ∀ p ∈ ps, (0 ≤ p.1 ∧ p.1 < (nn : Int)) ∧ ∀ x ∈ p.2, symErr lex nn x = 0
  | [], _, _, p, hp => by cases hp
  | q :: ps, i, h, p, hp => by
    unfold placesF at h
    by_cases e1 : 0 ≤ q.1 ∧ q.1 < (nn : Int)
    · rw [if_pos e1] at h
      by_cases e2 : (wrongP lex nn q.2).2 = 0
      · rw [if_pos e2] at h
        rcases List.mem_cons.1 hp with rfl | hp
        · exact ⟨e1, wrong_good e2⟩
        · exact places_good h p hp
      · rw [if_neg e2] at h
        exact absurd h e2
    · rw [if_neg e1] at h
      exact absurd (show (70 : Int) = 0 from h) (by decide)
theorem sym_good {k : Nat} {lex : List (LexM k)} {nn : Nat} (hl : lex.length ≤ 64) (hn : nn ≤ 128) {x : SymM} (h : symErr lex nn x = 0) : SymGood x := by
  unfold symErr at h
  by_cases e1 : x.1 = 1 ∧ 0 ≤ x.2 ∧ x.2 < (lex.length : Int)
  · exact ⟨fun e => by omega, fun _ _ => by omega⟩
  · rw [if_neg e1] at h
    by_cases e2 : (x.1 = 2 ∧ x.2 = 0) ∨ (x.1 = 3 ∧ 0 ≤ x.2 ∧ x.2 < (nn : Int))
    · exact ⟨fun e => by omega, fun e _ => by omega⟩
    · rw [if_neg e2] at h
      exact absurd h (by decide)
/-- First Q; if it tells no fault, R. -/
def ThenQ (Q R : Int × Int → Prop) (x : Int × Int) : Prop := ∃ a, Q a ∧ ((a.1 ≠ 0 ∧ x = a) ∨ (a.1 = 0 ∧ R x))
def chkQ {k : Nat} (lex : List (LexM k)) (ps : List ProdM) (nn nl : Nat) (st : Int) : Nat → Int × Int → Prop
  | 0 => LongQ nl nn ps
  | 1 => PlacesQ lex nn st ps
  | 2 => ReachedQ lex ps nn nl st.toNat
  | 3 => FirstMiss (Mk true ps) nn 73
  | _ => EmptyQ ps nn
/-- The checks from the j-th on. -/
def restQ {k : Nat} (lex : List (LexM k)) (ps : List ProdM) (nn nl : Nat) (st : Int) : Nat → Nat → Int × Int → Prop
  | 0, _, x => x = (0, 0)
  | m + 1, j, x => ThenQ (chkQ lex ps nn nl st j) (restQ lex ps nn nl st m (j + 1)) x
def CheckQ {k : Nat} (lex : List (LexM k)) (ps : List ProdM) (nn nl : Nat) (st : Int) : Int × Int → Prop := restQ lex ps nn nl st 5 0
/-- What is known when the first j checks have told nothing. -/
structure Passed {k : Nat} (lex : List (LexM k)) (ps : List ProdM) (nn nl : Nat) (st : Int) (j : Nat) : Prop where
  rest : ∀ x, restQ lex ps nn nl st (5 - j) j x → CheckQ lex ps nn nl st x
  long : 1 ≤ j → longB nl nn ps = false
  places : 2 ≤ j → (placesP lex nn st ps).1 = 0
theorem Passed.stop {k : Nat} {lex : List (LexM k)} {ps : List ProdM} {nn nl : Nat} {st : Int} {j : Nat} (h : Passed lex ps nn nl st j) (hj : j < 5) {x : Int × Int} (hq : chkQ lex ps nn nl st j x) (hx : x.1 ≠ 0) : CheckQ lex ps nn nl st x := by
  refine h.rest x ?_
  obtain ⟨m, hm⟩ : ∃ m, 5 - j = m + 1 := ⟨5 - j - 1, by omega⟩
  rw [hm]
  exact ⟨x, hq, .inl ⟨hx, rfl⟩⟩
theorem Passed.next {k : Nat} {lex : List (LexM k)} {ps : List ProdM} {nn nl : Nat} {st : Int} {j : Nat} (h : Passed lex ps nn nl st j) (hj : j < 5) {x : Int × Int} (hq : chkQ lex ps nn nl st j x) (hx : x.1 = 0) : Passed lex ps nn nl st (j + 1) := by
  refine ⟨fun y hy => h.rest y ?_, fun _ => ?_, fun hj2 => ?_⟩
  · obtain ⟨m, hm⟩ : ∃ m, 5 - j = m + 1 := ⟨5 - j - 1, by omega⟩
    have hm2 : 5 - (j + 1) = m := by omega
    rw [hm2] at hy
    rw [hm]
    exact ⟨x, hq, .inr ⟨hx, hy⟩⟩
  · by_cases e : j = 0
    · subst e
      have hq : x = (if longB nl nn ps then 2 else 0, 0) := hq
      cases hb : longB nl nn ps with
      | false => rfl
      | true => rw [hq, hb] at hx; exact absurd hx (by decide)
    · exact h.long (by omega)
  · by_cases e : j = 1
    · subst e
      have hq : x = placesP lex nn st ps := hq
      rw [← hq]
      exact hx
    · exact h.places (by omega)
theorem Passed.facts {k : Nat} {lex : List (LexM k)} {ps : List ProdM} {nn nl : Nat} {st : Int} {j : Nat} (h : Passed lex ps nn nl st j) (hlex : lex.length = nl) (hj : 2 ≤ j) : (nl ≤ 64 ∧ nn ≤ 128 ∧ 0 ≤ st ∧ st < (nn : Int)) ∧ (∀ p ∈ ps, ProdGood p) ∧ ∀ p ∈ ps, ProdOk p := by
  have hl := h.long (by omega)
  have hp := h.places hj
  unfold longB at hl
  simp only [Bool.or_eq_false_iff, decide_eq_false_iff_not] at hl
  unfold placesP at hp
  have hst : 0 ≤ st ∧ st < (nn : Int) := by
    by_cases e : 0 ≤ st ∧ st < (nn : Int)
    · exact e
    · rw [if_neg e] at hp; exact absurd hp (by decide)
  rw [if_pos hst] at hp
  have hg : ∀ p ∈ ps, ProdGood p := fun p hm => by
    obtain ⟨h1, h2⟩ := places_good hp p hm
    exact ⟨⟨h1.1, by omega⟩, fun x hx => sym_good (by omega) (by omega) (h2 x hx)⟩
  exact ⟨⟨by omega, by omega, hst⟩, hg, fun p hm => ⟨(hg p hm).1, fun x hx => ((hg p hm).2 x hx).1⟩⟩
theorem faultV_eq (e a : Int) : faultV (e, a) = .agg #[.int .i64 e, .int .i64 a, .string ⟨#[]⟩] := rfl
def CkI {k : Nat} (lex : List (LexM k)) (ps : List ProdM) (nn nl : Nat) (st : Int) (W : World) (vi : Value) (wr : World) : Prop := ∃ j : Nat, vi = .int .i64 (j : Int) ∧ j ≤ 5 ∧ Hid (Passed lex ps nn nl st j) ∧ Hid (Kept W wr)
set_option linter.unusedSimpArgs false in
set_option maxRecDepth 100000 in
set_option maxHeartbeats 16000000 in
theorem sCheck_is (k : Nat) (lex : List (LexM k)) (ps : List ProdM) (al an ap : Option Addr) (nl cl nn cn np cp : Nat) (st : Int) (w : World) (hnn : nn ≤ 17592186044416) (hlex : lex.length = nl) (hps : ps.length = np) (hl : LexAt w k (.slice al nl cl) lex) (hp : ProdsAt w (.slice ap np cp) ps) :
    Calls Tryd.prog 27 #[.agg #[.slice al nl cl, .slice an nn cn, .int .i64 st, .slice ap np cp]] w (FaultR (CheckQ lex ps nn nl st) w) := by
  obtain ⟨h1, h2, h3⟩ := chk_start w (.slice al nl cl) (.slice an nn cn) (.int .i64 st) (.slice ap np cp)
  have HB := hide1 h1
  have HF := hide1 h2
  have HK := hide1 h3
  have HP := hide1 hp
  have HPS := hide1 hps
  have HL := hide1 hl
  have HLEN := hide1 hlex
  have HNN := hide1 hnn
  have HNL : Hid (nl ≤ 17592186044416) := by
    obtain ⟨_, _, _, _, h⟩ := hl.len
    rw [hlex] at h
    exact h
  clear h1 h2 h3 hp hps hl hlex hnn
  go_enter Tryd.func27, Tryd.ntmps27
  go_upto_region 1 with fail
  obtain ⟨W, hW⟩ : ∃ W, (w.alloc (.cells #[.slice al nl cl, .slice an nn cn, .int .i64 st, .slice ap np cp] 26)).alloc (.cells #[.int .i64 0, .int .i64 0, .string ⟨#[]⟩] 44) = W := ⟨_, rfl⟩
  rw [hW] at HB HF HK ⊢
  clear hW
  obtain ⟨b, hb⟩ : ∃ b, w.heap.size = b := ⟨_, rfl⟩
  rw [hb] at HB HF ⊢
  have HSZ := hide1 hb
  clear hb
  have HK1 : Hid (Kept W (W.alloc (.cells #[.func (.func 50) #[] #[], .func (.func 51) #[] #[], .func (.func 52) #[] #[], .func (.func 53) #[] #[], .func (.func 54) #[] #[]] 52))) := (Kept.refl W).alloc _ _
  have hfb : (W.alloc (.cells #[.func (.func 50) #[] #[], .func (.func 51) #[] #[], .func (.func 52) #[] #[], .func (.func 53) #[] #[], .func (.func 54) #[] #[]] 52)).heap[W.heap.size]? = some (.cells #[.func (.func 50) #[] #[], .func (.func 51) #[] #[], .func (.func 52) #[] #[], .func (.func 53) #[] #[], .func (.func 54) #[] #[]] 52 (0, 0)) := heap_alloc_new W _
  have HFB := hide1 hfb
  clear hfb
  go_wp2_with fail
  obtain ⟨W2, hW2⟩ : ∃ W2, W.alloc (.cells #[.func (.func 50) #[] #[], .func (.func 51) #[] #[], .func (.func 52) #[] #[], .func (.func 53) #[] #[], .func (.func 54) #[] #[]] 52) = W2 := ⟨_, rfl⟩
  rw [hW2] at HK1 HFB ⊢
  clear hW2
  obtain ⟨fb, hfb⟩ : ∃ fb, W.heap.size = fb := ⟨_, rfl⟩
  rw [hfb] at HFB ⊢
  clear hfb
  have HF0 : Hid (W2.cell? ⟨fb, 0, none⟩ = some (.func (.func 50) #[] #[]) ∧ W2.cell? ⟨fb, 1, none⟩ = some (.func (.func 51) #[] #[]) ∧ W2.cell? ⟨fb, 2, none⟩ = some (.func (.func 52) #[] #[]) ∧ W2.cell? ⟨fb, 3, none⟩ = some (.func (.func 53) #[] #[]) ∧ W2.cell? ⟨fb, 4, none⟩ = some (.func (.func 54) #[] #[])) := by
    have h := HFB.out
    refine ⟨?_, ?_, ?_, ?_, ?_⟩ <;> simp only [World.cell?, h] <;> rfl
  have HKW := hide1 (gtrans HK.out HK1.out)
  have HF2 := hide1 (HF.out.keep HK1.out)
  have HB2 := hide1 (HB.out.keep HK1.out)
  clear HFB HF HB HK HK1
  go_loopw [8] (CkI lex ps nn nl st W2) (fun i _ => 5 - (intOf i).toNat)
  case atStart => exact ⟨0, rfl, by omega, ⟨fun x hx => hx, fun h => by omega, fun h => by omega⟩, Kept.refl W2⟩
  case round =>
    obtain ⟨j, rfl, hj, HPA, HKr⟩ := hrel
    obtain ⟨s0, s1, s2, s3⟩ := (HB2.out.keep HKr.out).facts
    have HKw := hide1 (gtrans HKW.out HKr.out)
    have HFr := hide1 (HF2.out.keep HKr.out)
    obtain ⟨g0, g1, g2, g3, g4⟩ := HF0.out
    have g0 := grown_cell HKr.out g0
    have g1 := grown_cell HKr.out g1
    have g2 := grown_cell HKr.out g2
    have g3 := grown_cell HKr.out g3
    have g4 := grown_cell HKr.out g4
    rcases (by omega : j = 0 ∨ j = 1 ∨ j = 2 ∨ j = 3 ∨ j = 4 ∨ j = 5) with rfl | rfl | rfl | rfl | rfl | rfl
    · rw [show ((0 : Nat) : Int) = 0 from rfl]
      clear g1 g2 g3 g4
      go_upto_region 5 with (go_at_call 50; refine (checkSizes_is ps al an ap nl cl nn cn np cp (.int .i64 st) _ HNL.out HNN.out HPS.out (HP.out.keep HKw.out)).mono ?_; rintro e w6 ⟨⟨xe, xa⟩, rfl, hq6, hk6⟩; rw [faultV_eq]; have HQ6 := hide1 hq6; have HK6 := hide1 hk6; clear hq6 hk6)
      have HXB : Hid (FlBox (w6.alloc (.cells #[.int .i64 xe, .int .i64 xa, .string ⟨#[]⟩] 44)) w6.heap.size xe xa) := heap_alloc_new w6 _
      have HK7 := hide1 (gtrans HK6.out ((Kept.refl w6).alloc #[.int .i64 xe, .int .i64 xa, .string ⟨#[]⟩] 44))
      clear s0 s1 s2 s3 g0
      obtain ⟨W7, hW7⟩ : ∃ W7, w6.alloc (.cells #[.int .i64 xe, .int .i64 xa, .string ⟨#[]⟩] 44) = W7 := ⟨_, rfl⟩
      rw [hW7] at HXB HK7 ⊢
      clear hW7
      obtain ⟨xb, hxb⟩ : ∃ xb, w6.heap.size = xb := ⟨_, rfl⟩
      rw [hxb] at HXB ⊢
      clear hxb
      obtain ⟨⟨x0, x1, x2⟩, _⟩ := HXB.out.cells
      have HF7 := hide1 (HFr.out.keep HK7.out)
      by_cases hx0 : xe = 0
      · have b0 : (xe != 0) = false := by simp [hx0]
        have HPN := hide1 (HPA.out.next (by omega) (x := (xe, xa)) HQ6.out hx0)
        clear hx0
        go_wp2_with fail
        go_roundw
        case rel => exact ⟨1, by go_num, by omega, HPN, gtrans HKr.out HK7.out⟩
        case measure => simp [intOf]
      · have b0 : (xe != 0) = true := by simpa using hx0
        have HPN := hide1 (HPA.out.stop (by omega) (x := (xe, xa)) HQ6.out hx0)
        clear hx0
        obtain ⟨⟨f0, f1, f2⟩, z0, z1, z2⟩ := HF7.out.cells
        go_wp2_with fail
        refine bodyPost_ret (results_cell_row rfl _ _ (b + 1) 44 _ (0, 0) _ rfl (HF7.out.fill xe xa) Tryd.underlying44 rfl (fault_size _ _)) rfl ?_
        exact ⟨(xe, xa), rfl, HPN.out, keepB (keepB (keepB (gtrans HKw.out HK7.out) (by rw [HSZ.out]; omega)) (by rw [HSZ.out]; omega)) (by rw [HSZ.out]; omega)⟩
    · rw [show ((1 : Nat) : Int) = 1 from rfl]
      clear g0 g2 g3 g4
      go_upto_region 5 with (go_at_call 51; refine (checkPlaces_is k lex ps al an ap nl cl nn cn np cp st _ HNN.out HLEN.out HPS.out (HL.out.keep HKw.out) (HP.out.keep HKw.out)).mono ?_; rintro e w6 ⟨⟨xe, xa⟩, rfl, hq6, hk6⟩; rw [faultV_eq]; have HQ6 := hide1 hq6; have HK6 := hide1 hk6; clear hq6 hk6)
      have HXB : Hid (FlBox (w6.alloc (.cells #[.int .i64 xe, .int .i64 xa, .string ⟨#[]⟩] 44)) w6.heap.size xe xa) := heap_alloc_new w6 _
      have HK7 := hide1 (gtrans HK6.out ((Kept.refl w6).alloc #[.int .i64 xe, .int .i64 xa, .string ⟨#[]⟩] 44))
      clear s0 s1 s2 s3 g1
      obtain ⟨W7, hW7⟩ : ∃ W7, w6.alloc (.cells #[.int .i64 xe, .int .i64 xa, .string ⟨#[]⟩] 44) = W7 := ⟨_, rfl⟩
      rw [hW7] at HXB HK7 ⊢
      clear hW7
      obtain ⟨xb, hxb⟩ : ∃ xb, w6.heap.size = xb := ⟨_, rfl⟩
      rw [hxb] at HXB ⊢
      clear hxb
      obtain ⟨⟨x0, x1, x2⟩, _⟩ := HXB.out.cells
      have HF7 := hide1 (HFr.out.keep HK7.out)
      by_cases hx0 : xe = 0
      · have b0 : (xe != 0) = false := by simp [hx0]
        have HPN := hide1 (HPA.out.next (by omega) (x := (xe, xa)) HQ6.out hx0)
        clear hx0
        go_wp2_with fail
        go_roundw
        case rel => exact ⟨2, by go_num, by omega, HPN, gtrans HKr.out HK7.out⟩
        case measure => simp [intOf]
      · have b0 : (xe != 0) = true := by simpa using hx0
        have HPN := hide1 (HPA.out.stop (by omega) (x := (xe, xa)) HQ6.out hx0)
        clear hx0
        obtain ⟨⟨f0, f1, f2⟩, z0, z1, z2⟩ := HF7.out.cells
        go_wp2_with fail
        refine bodyPost_ret (results_cell_row rfl _ _ (b + 1) 44 _ (0, 0) _ rfl (HF7.out.fill xe xa) Tryd.underlying44 rfl (fault_size _ _)) rfl ?_
        exact ⟨(xe, xa), rfl, HPN.out, keepB (keepB (keepB (gtrans HKw.out HK7.out) (by rw [HSZ.out]; omega)) (by rw [HSZ.out]; omega)) (by rw [HSZ.out]; omega)⟩
    · have HFA := hide1 (HPA.out.facts HLEN.out (by omega))
      obtain ⟨stn, rfl⟩ : ∃ stn : Nat, st = (stn : Int) := ⟨st.toNat, by have := HFA.out.1; omega⟩
      have HSTN : Hid (stn < 128) := by have := HFA.out.1; show _ < _; omega
      rw [show ((2 : Nat) : Int) = 2 from rfl]
      clear g0 g1 g3 g4
      go_upto_region 5 with (go_at_call 52; refine (checkReached_is k lex ps al an ap nl cl nn cn np cp stn _ HFA.out.1.1 HFA.out.1.2.1 HSTN.out HLEN.out HPS.out (HL.out.keep HKw.out) (HP.out.keep HKw.out) HFA.out.2.1).mono ?_; rintro e w6 ⟨⟨xe, xa⟩, rfl, hq6, hk6⟩; rw [faultV_eq]; have HQ6 := hide1 hq6; have HK6 := hide1 hk6; clear hq6 hk6)
      have HXB : Hid (FlBox (w6.alloc (.cells #[.int .i64 xe, .int .i64 xa, .string ⟨#[]⟩] 44)) w6.heap.size xe xa) := heap_alloc_new w6 _
      have HK7 := hide1 (gtrans HK6.out ((Kept.refl w6).alloc #[.int .i64 xe, .int .i64 xa, .string ⟨#[]⟩] 44))
      clear s0 s1 s2 s3 g2
      obtain ⟨W7, hW7⟩ : ∃ W7, w6.alloc (.cells #[.int .i64 xe, .int .i64 xa, .string ⟨#[]⟩] 44) = W7 := ⟨_, rfl⟩
      rw [hW7] at HXB HK7 ⊢
      clear hW7
      obtain ⟨xb, hxb⟩ : ∃ xb, w6.heap.size = xb := ⟨_, rfl⟩
      rw [hxb] at HXB ⊢
      clear hxb
      obtain ⟨⟨x0, x1, x2⟩, _⟩ := HXB.out.cells
      have HF7 := hide1 (HFr.out.keep HK7.out)
      by_cases hx0 : xe = 0
      · have b0 : (xe != 0) = false := by simp [hx0]
        have HPN := hide1 (HPA.out.next (by omega) (x := (xe, xa)) HQ6.out hx0)
        clear hx0
        go_wp2_with fail
        go_roundw
        case rel => exact ⟨3, by go_num, by omega, HPN, gtrans HKr.out HK7.out⟩
        case measure => simp [intOf]
      · have b0 : (xe != 0) = true := by simpa using hx0
        have HPN := hide1 (HPA.out.stop (by omega) (x := (xe, xa)) HQ6.out hx0)
        clear hx0
        obtain ⟨⟨f0, f1, f2⟩, z0, z1, z2⟩ := HF7.out.cells
        go_wp2_with fail
        refine bodyPost_ret (results_cell_row rfl _ _ (b + 1) 44 _ (0, 0) _ rfl (HF7.out.fill xe xa) Tryd.underlying44 rfl (fault_size _ _)) rfl ?_
        exact ⟨(xe, xa), rfl, HPN.out, keepB (keepB (keepB (gtrans HKw.out HK7.out) (by rw [HSZ.out]; omega)) (by rw [HSZ.out]; omega)) (by rw [HSZ.out]; omega)⟩
    · have HFA := hide1 (HPA.out.facts HLEN.out (by omega))
      rw [show ((3 : Nat) : Int) = 3 from rfl]
      clear g0 g1 g2 g4
      go_upto_region 5 with (go_at_call 53; refine (checkSentences_is ps (.slice al nl cl) (.int .i64 st) an ap nn cn np cp _ HFA.out.1.2.1 HPS.out (HP.out.keep HKw.out) HFA.out.2.2).mono ?_; rintro e w6 ⟨⟨xe, xa⟩, rfl, hq6, hk6⟩; rw [faultV_eq]; have HQ6 := hide1 hq6; have HK6 := hide1 hk6; clear hq6 hk6)
      have HXB : Hid (FlBox (w6.alloc (.cells #[.int .i64 xe, .int .i64 xa, .string ⟨#[]⟩] 44)) w6.heap.size xe xa) := heap_alloc_new w6 _
      have HK7 := hide1 (gtrans HK6.out ((Kept.refl w6).alloc #[.int .i64 xe, .int .i64 xa, .string ⟨#[]⟩] 44))
      clear s0 s1 s2 s3 g3
      obtain ⟨W7, hW7⟩ : ∃ W7, w6.alloc (.cells #[.int .i64 xe, .int .i64 xa, .string ⟨#[]⟩] 44) = W7 := ⟨_, rfl⟩
      rw [hW7] at HXB HK7 ⊢
      clear hW7
      obtain ⟨xb, hxb⟩ : ∃ xb, w6.heap.size = xb := ⟨_, rfl⟩
      rw [hxb] at HXB ⊢
      clear hxb
      obtain ⟨⟨x0, x1, x2⟩, _⟩ := HXB.out.cells
      have HF7 := hide1 (HFr.out.keep HK7.out)
      by_cases hx0 : xe = 0
      · have b0 : (xe != 0) = false := by simp [hx0]
        have HPN := hide1 (HPA.out.next (by omega) (x := (xe, xa)) HQ6.out hx0)
        clear hx0
        go_wp2_with fail
        go_roundw
        case rel => exact ⟨4, by go_num, by omega, HPN, gtrans HKr.out HK7.out⟩
        case measure => simp [intOf]
      · have b0 : (xe != 0) = true := by simpa using hx0
        have HPN := hide1 (HPA.out.stop (by omega) (x := (xe, xa)) HQ6.out hx0)
        clear hx0
        obtain ⟨⟨f0, f1, f2⟩, z0, z1, z2⟩ := HF7.out.cells
        go_wp2_with fail
        refine bodyPost_ret (results_cell_row rfl _ _ (b + 1) 44 _ (0, 0) _ rfl (HF7.out.fill xe xa) Tryd.underlying44 rfl (fault_size _ _)) rfl ?_
        exact ⟨(xe, xa), rfl, HPN.out, keepB (keepB (keepB (gtrans HKw.out HK7.out) (by rw [HSZ.out]; omega)) (by rw [HSZ.out]; omega)) (by rw [HSZ.out]; omega)⟩
    · have HFA := hide1 (HPA.out.facts HLEN.out (by omega))
      rw [show ((4 : Nat) : Int) = 4 from rfl]
      clear g0 g1 g2 g3
      go_upto_region 5 with (go_at_call 54; refine (checkEmpty_is ps (.slice al nl cl) (.int .i64 st) an ap nn cn np cp _ HFA.out.1.2.1 HPS.out (HP.out.keep HKw.out) HFA.out.2.2).mono ?_; rintro e w6 ⟨⟨xe, xa⟩, rfl, hq6, hk6⟩; rw [faultV_eq]; have HQ6 := hide1 hq6; have HK6 := hide1 hk6; clear hq6 hk6)
      have HXB : Hid (FlBox (w6.alloc (.cells #[.int .i64 xe, .int .i64 xa, .string ⟨#[]⟩] 44)) w6.heap.size xe xa) := heap_alloc_new w6 _
      have HK7 := hide1 (gtrans HK6.out ((Kept.refl w6).alloc #[.int .i64 xe, .int .i64 xa, .string ⟨#[]⟩] 44))
      clear s0 s1 s2 s3 g4
      obtain ⟨W7, hW7⟩ : ∃ W7, w6.alloc (.cells #[.int .i64 xe, .int .i64 xa, .string ⟨#[]⟩] 44) = W7 := ⟨_, rfl⟩
      rw [hW7] at HXB HK7 ⊢
      clear hW7
      obtain ⟨xb, hxb⟩ : ∃ xb, w6.heap.size = xb := ⟨_, rfl⟩
      rw [hxb] at HXB ⊢
      clear hxb
      obtain ⟨⟨x0, x1, x2⟩, _⟩ := HXB.out.cells
      have HF7 := hide1 (HFr.out.keep HK7.out)
      by_cases hx0 : xe = 0
      · have b0 : (xe != 0) = false := by simp [hx0]
        have HPN := hide1 (HPA.out.next (by omega) (x := (xe, xa)) HQ6.out hx0)
        clear hx0
        go_wp2_with fail
        go_roundw
        case rel => exact ⟨5, by go_num, by omega, HPN, gtrans HKr.out HK7.out⟩
        case measure => simp [intOf]
      · have b0 : (xe != 0) = true := by simpa using hx0
        have HPN := hide1 (HPA.out.stop (by omega) (x := (xe, xa)) HQ6.out hx0)
        clear hx0
        obtain ⟨⟨f0, f1, f2⟩, z0, z1, z2⟩ := HF7.out.cells
        go_wp2_with fail
        refine bodyPost_ret (results_cell_row rfl _ _ (b + 1) 44 _ (0, 0) _ rfl (HF7.out.fill xe xa) Tryd.underlying44 rfl (fault_size _ _)) rfl ?_
        exact ⟨(xe, xa), rfl, HPN.out, keepB (keepB (keepB (gtrans HKw.out HK7.out) (by rw [HSZ.out]; omega)) (by rw [HSZ.out]; omega)) (by rw [HSZ.out]; omega)⟩
    · rw [show ((5 : Nat) : Int) = 5 from rfl]
      obtain ⟨⟨f0, f1, f2⟩, z0, z1, z2⟩ := HFr.out.cells
      clear g0 g1 g2 g3 g4
      go_wp2_with fail
      refine bodyPost_ret (results_cell_row rfl _ _ (b + 1) 44 _ (0, 0) _ rfl (HFr.out.fill 0 0) Tryd.underlying44 rfl (fault_size _ _)) rfl ?_
      exact ⟨(0, 0), rfl, HPA.out.rest (0, 0) rfl, keepB (keepB (keepB HKw.out (by rw [HSZ.out]; omega)) (by rw [HSZ.out]; omega)) (by rw [HSZ.out]; omega)⟩

end Ex
end Go.Proofs.YtooelfjceehmmaaDoor
