import Derived.Test.YtooelfjceehmmaaDoorMSpDe
import Derived.Test.YtooelfjceehmmaaDoorMSpSm
namespace Go.Proofs.YtooelfjceehmmaaDoor
open Go.RowKit
attribute [local go_sem] Oper.semAt_some
namespace Ex

def DgI (P : Nat → Prop) (W : World) (vi : Value) (wr : World) : Prop := ∃ j : Nat, vi = .int .i64 (j : Int) ∧ Hid (∀ k, k < j → P k) ∧ Hid (wr = W)
set_option linter.unusedSimpArgs false in
set_option maxRecDepth 100000 in
set_option maxHeartbeats 8000000 in
theorem dEmptied_is (ps : List ProdM) (x0 x2 : Value) (an ap : Option Addr) (nn cn np cp : Nat) (w : World) (hnn : nn ≤ 128) (hps : ps.length = np) (hp : ProdsAt w (.slice ap np cp) ps) (hok : ∀ p ∈ ps, (0 ≤ p.1 ∧ p.1 < (nn : Int)) ∧ ∀ x ∈ p.2, x.1 = 3 → 0 ≤ x.2 ∧ x.2 < (nn : Int)) :
    Calls Tryd.prog 70 #[.agg #[x0, .slice an nn cn, x2, .slice ap np cp]] w (PairR (EmptyQ ps nn) w) := by
  have HK1 : Hid (Kept w (w.alloc (.cells #[x0, .slice an nn cn, x2, .slice ap np cp] 26))) := (Kept.refl w).alloc _ _
  have HB1 := hide1 (SBox.new w x0 (.slice an nn cn) x2 (.slice ap np cp))
  have HP := hide1 hp
  have HPS := hide1 hps
  have HOK := hide1 hok
  have HNN := hide1 hnn
  have gn : (nn : Int) ≤ 128 := by omega
  clear hp hps hok
  go_enter Tryd.func70, Tryd.ntmps70
  go_upto_region 1 with fail
  obtain ⟨W, hW⟩ : ∃ W, w.alloc (.cells #[x0, .slice an nn cn, x2, .slice ap np cp] 26) = W := ⟨_, rfl⟩
  rw [hW] at HK1 HB1 ⊢
  clear hW
  obtain ⟨b, hb⟩ : ∃ b, w.heap.size = b := ⟨_, rfl⟩
  rw [hb] at HB1 ⊢
  clear hb
  obtain ⟨s0, s1, s2, s3⟩ := HB1.out.facts
  go_upto_region 2 with (go_at_call 88; refine (dEmpties_is ps x0 x2 an ap nn cn np cp _ HNN.out HPS.out (HP.out.keep HK1.out) HOK.out).mono ?_; rintro e w2 ⟨ms, g, rfl, h1, h2, h3, h4, h5⟩; have HML := hide1 h1; have HEZ := hide1 h2.1; have HSM := hide1 h2.2; have HT := hide1 h4; have HK2 := hide1 h5; clear h1 h2 h3 h4 h5)
  clear s0 s1 s2 s3
  obtain ⟨s0, s1, s2, s3⟩ := (HB1.out.keep HK2.out).facts
  go_upto_region 3 with (go_at_call 40; refine (dNullable_is ps x0 x2 an ap nn cn np cp _ HNN.out HPS.out (HP.out.keep (gtrans HK1.out HK2.out)) HOK.out).mono ?_; rintro e w3 ⟨es, h, rfl, h1, h2, h3, h4, h5⟩; have HEL := hide1 h1; have HEM := hide1 h2; have HE := hide1 h4; have HK3 := hide1 h5; clear h1 h2 h3 h4 h5)
  clear s0 s1 s2 s3
  have HT3 := hide1 (HT.out.keep HK3.out)
  have HKw := hide1 (gtrans HK1.out (gtrans HK2.out HK3.out))
  go_wp2_with fail
  go_loopw [6] (DgI (fun i => Mk false ps i → ∃ k, k ≤ 256 ∧ Ez ps i k) w3) (fun i _ => nn - (intOf i).toNat)
  case atStart => exact ⟨0, rfl, fun k hk => by omega, rfl⟩
  case round =>
    obtain ⟨i, rfl, HI, HWI⟩ := hrel
    have hWI := HWI.out.symm
    subst hWI
    by_cases hli : (i : Int) < (nn : Int)
    · obtain ⟨y, hy⟩ : ∃ y, es[i]? = some y := ⟨_, List.getElem?_eq_getElem (by have := HEL.out; omega)⟩
      obtain ⟨z, hz⟩ : ∃ z, ms[i]? = some z := ⟨_, List.getElem?_eq_getElem (by have := HML.out; omega)⟩
      have c0 := HE.out.cell hy
      have c1 := HT3.out.cell hz
      have HBIT : Hid (y = true ↔ Mk false ps i) := by
        show _ ↔ _
        rw [← HEM.out i, bits_test, List.getD_eq_getElem?_getD, hy]
        rfl
      have HZ := hide1 hz
      clear hy hz
      cases y with
      | false =>
        have HN : Hid (∀ k, k < i + 1 → Mk false ps k → ∃ q, q ≤ 256 ∧ Ez ps k q) := by
          intro k hk
          rcases Nat.lt_or_ge k i with h | h
          · exact HI.out k h
          · rw [show k = i by omega]
            intro hm
            have := HBIT.out.2 hm
            cases this
        go_wp2_with fail
        go_roundw
        case rel => exact ⟨i + 1, by go_num, HN, rfl⟩
        case measure => simp [intOf]; omega
      | true =>
        by_cases hz0 : z = 0
        · subst hz0
          rw [show ((0 : Nat) : Int) = 0 from rfl] at c1
          have HNO : Hid (¬ (Mk false ps i → ∃ k, k ≤ 256 ∧ Ez ps i k)) := by
            intro h
            exact (ez_small HEZ.out i).1 (h (HBIT.out.1 rfl)) (vOf_none HZ.out)
          go_wp2_with fail
          go_ret2
          exact ⟨(6, (i : Int)), rfl, .inl ⟨i, by omega, HNO.out, HI.out, rfl⟩, HKw.out⟩
        · have gz0 : ((z : Int) == 0) = false := by simp; omega
          have HN : Hid (∀ k, k < i + 1 → Mk false ps k → ∃ q, q ≤ 256 ∧ Ez ps k q) := by
            intro k hk
            rcases Nat.lt_or_ge k i with h | h
            · exact HI.out k h
            · rw [show k = i by omega]
              intro _
              exact (ez_small HEZ.out i).2 (by rw [vOf_at HZ.out hz0]; have := HSM.out z (List.mem_of_getElem? HZ.out); omega)
          clear hz0
          go_wp2_with fail
          go_roundw
          case rel => exact ⟨i + 1, by go_num, HN, rfl⟩
          case measure => simp [intOf]; omega
    · go_wp2_with fail
      go_ret2
      exact ⟨(0, 0), rfl, .inr ⟨fun k hk => HI.out k (by omega), rfl⟩, HKw.out⟩

end Ex
end Go.Proofs.YtooelfjceehmmaaDoor
namespace Go.Proofs.YtooelfjceehmmaaDoor
open Go.RowKit
attribute [local go_sem] Oper.semAt_some
namespace Ex

theorem passed_zero {k : Nat} (lex : List (LexM k)) (ps : List ProdM) (nn nl : Nat) (st : Int) : Passed lex ps nn nl st 0 := ⟨fun _ h => h, fun h => by omega, fun h => by omega⟩
/-- Where the first two checks have told nothing: what a symbol is. -/
theorem Passed.exact {k : Nat} {lex : List (LexM k)} {ps : List ProdM} {nn nl : Nat} {st : Int} {j : Nat} (h : Passed lex ps nn nl st j) (hlex : lex.length = nl) (hj : 2 ≤ j) : ∀ p ∈ ps, (0 ≤ p.1 ∧ p.1 < (nn : Int)) ∧ ∀ x ∈ p.2, symErr lex nn x = 0 := by
  obtain ⟨h1, _, _⟩ := h.facts hlex hj
  have hp := h.places hj
  unfold placesP at hp
  rw [if_pos h1.2.2] at hp
  exact places_good hp
theorem exact_names {k : Nat} {lex : List (LexM k)} {ps : List ProdM} {nn nl : Nat} (hlex : lex.length = nl) (h : ∀ p ∈ ps, (0 ≤ p.1 ∧ p.1 < (nn : Int)) ∧ ∀ x ∈ p.2, symErr lex nn x = 0) : ∀ p ∈ ps, (0 ≤ p.1 ∧ p.1 < (nn : Int)) ∧ ∀ x ∈ p.2, x.1 = 3 → 0 ≤ x.2 ∧ x.2 < (nn : Int) := fun p hp => ⟨(h p hp).1, fun x hx h3 => by
  rcases sym_three hlex ((h p hp).2 x hx) with e | e | e
  · omega
  · omega
  · exact e.2⟩
set_option linter.unusedSimpArgs false in
set_option maxRecDepth 100000 in
set_option maxHeartbeats 8000000 in
/-- The document's Check of any spec. -/
theorem dCheck_is (k : Nat) (lex : List (LexM k)) (ps : List ProdM) (al an ap : Option Addr) (nl cl nn cn np cp : Nat) (st : Int) (w : World) (hnn : nn ≤ 17592186044416) (hlex : lex.length = nl) (hps : ps.length = np) (hl : LexAt w k (.slice al nl cl) lex) (hp : ProdsAt w (.slice ap np cp) ps) :
    Calls Tryd.prog 34 #[.agg #[.slice al nl cl, .slice an nn cn, .int .i64 st, .slice ap np cp]] w (PairR (CheckQ lex ps nn nl st) w) := by
  have HK1 : Hid (Kept w (w.alloc (.cells #[.slice al nl cl, .slice an nn cn, .int .i64 st, .slice ap np cp] 26))) := (Kept.refl w).alloc _ _
  have HB1 := hide1 (SBox.new w (.slice al nl cl) (.slice an nn cn) (.int .i64 st) (.slice ap np cp))
  have HP := hide1 hp
  have HPS := hide1 hps
  have HL := hide1 hl
  have HLEN := hide1 hlex
  have HNN := hide1 hnn
  have HNL : Hid (nl ≤ 17592186044416) := by obtain ⟨_, _, _, _, h⟩ := hl.len; rw [hlex] at h; exact h
  have HP0 := hide1 (passed_zero lex ps nn nl st)
  clear hp hps hl hlex hnn
  go_enter Tryd.func34, Tryd.ntmps34
  go_upto_region 1 with fail
  obtain ⟨W, hW⟩ : ∃ W, w.alloc (.cells #[.slice al nl cl, .slice an nn cn, .int .i64 st, .slice ap np cp] 26) = W := ⟨_, rfl⟩
  rw [hW] at HK1 HB1 ⊢
  clear hW
  obtain ⟨b, hb⟩ : ∃ b, w.heap.size = b := ⟨_, rfl⟩
  rw [hb] at HB1 ⊢
  clear hb
  obtain ⟨s0, s1, s2, s3⟩ := HB1.out.facts
  obtain ⟨lb, hlb⟩ : ∃ lb, longB nl nn ps = lb := ⟨_, rfl⟩
  have HLB := hide1 hlb
  have HC0 := hide1 (dLong_is ps al an ap nl cl nn cn np cp (.int .i64 st) W HNL.out HNN.out HPS.out (HP.out.keep HK1.out))
  rw [hlb] at HC0
  clear hlb
  cases lb with
  | true =>
    have HQ : Hid (CheckQ lex ps nn nl st (2, 0)) := HP0.out.stop (by omega) (by show LongQ nl nn ps (2, 0); unfold LongQ; rw [HLB.out]; rfl) (by show (2 : Int) ≠ 0; decide)
    go_wp2_with (go_at_call 66; refine HC0.out.mono ?_; rintro e w2 ⟨rfl, hk2⟩; have HK2 := hide1 hk2; clear hk2)
    go_ret2
    exact ⟨(2, 0), rfl, HQ.out, gtrans HK1.out HK2.out⟩
  | false =>
    have HP1 := hide1 (HP0.out.next (by omega) (x := (0, 0)) (by show LongQ nl nn ps (0, 0); unfold LongQ; rw [HLB.out]; rfl) rfl)
    go_upto_region 3 with (go_at_call 66; refine HC0.out.mono ?_; rintro e w2 ⟨rfl, hk2⟩; have HK2 := hide1 (gtrans HK1.out hk2); have HB2 := hide1 (HB1.out.keep hk2); clear hk2)
    clear s0 s1 s2 s3 HC0
    obtain ⟨s0, s1, s2, s3⟩ := HB2.out.facts
    obtain ⟨⟨xe, xa⟩, hx⟩ : ∃ x, placesP lex nn st ps = x := ⟨_, rfl⟩
    have HX := hide1 hx
    have HC1 := hide1 (dIndices_is k lex ps al an ap nl cl nn cn np cp st w2 HNN.out HLEN.out HPS.out (HL.out.keep HK2.out) (HP.out.keep HK2.out))
    rw [hx] at HC1
    clear hx
    go_upto_region 4 with (go_at_call 67; refine HC1.out.mono ?_; rintro e w3 ⟨rfl, hk3⟩; have HK3 := hide1 (gtrans HK2.out hk3); have HB3 := hide1 (HB2.out.keep hk3); clear hk3)
    clear s0 s1 s2 s3 HC1
    have HQ1 : Hid (chkQ lex ps nn nl st 1 (xe, xa)) := by show PlacesQ lex nn st ps (xe, xa); unfold PlacesQ; rw [HX.out]
    by_cases hx1 : xe = 0
    · subst hx1
      have HP2 := hide1 (HP1.out.next (by omega) (x := (0, xa)) HQ1.out rfl)
      have HFA := hide1 (HP2.out.facts HLEN.out (Nat.le_refl _))
      have HEX := hide1 (HP2.out.exact HLEN.out (Nat.le_refl _))
      have HEN := hide1 (exact_names HLEN.out HEX.out)
      obtain ⟨stn, rfl⟩ : ∃ stn : Nat, st = (stn : Int) := ⟨st.toNat, by have := HFA.out.1; omega⟩
      have HSTN : Hid (stn < nn) := by have := HFA.out.1; show _ < _; omega
      obtain ⟨s0, s1, s2, s3⟩ := HB3.out.facts
      go_upto_region 6 with (go_at_call 68; refine (dReached_is k lex ps al an ap nl cl nn cn np cp stn w3 HFA.out.1.1 HFA.out.1.2.1 HSTN.out HLEN.out HPS.out (HL.out.keep HK3.out) (HP.out.keep HK3.out) HEX.out).mono ?_; rintro e w4 ⟨⟨ye, ya⟩, rfl, hq4, hk4⟩; have HQ2 := hide1 hq4; have HK4 := hide1 (gtrans HK3.out hk4); have HB4 := hide1 (HB3.out.keep hk4); clear hq4 hk4)
      clear s0 s1 s2 s3
      by_cases hx2 : ye = 0
      · subst hx2
        have HP3 := hide1 (HP2.out.next (by omega) (x := (0, ya)) HQ2.out rfl)
        obtain ⟨s0, s1, s2, s3⟩ := HB4.out.facts
        go_upto_region 8 with (go_at_call 69; refine (dProductive_is ps (.slice al nl cl) (.int .i64 (stn : Int)) an ap nn cn np cp w4 HFA.out.1.2.1 HPS.out (HP.out.keep HK4.out) HEN.out).mono ?_; rintro e w5 ⟨⟨ze, za⟩, rfl, hq5, hk5⟩; have HQ3 := hide1 hq5; have HK5 := hide1 (gtrans HK4.out hk5); have HB5 := hide1 (HB4.out.keep hk5); clear hq5 hk5)
        clear s0 s1 s2 s3
        by_cases hx3 : ze = 0
        · subst hx3
          have HP4 := hide1 (HP3.out.next (by omega) (x := (0, za)) HQ3.out rfl)
          obtain ⟨s0, s1, s2, s3⟩ := HB5.out.facts
          go_wp2_with (go_at_call 70; refine (dEmptied_is ps (.slice al nl cl) (.int .i64 (stn : Int)) an ap nn cn np cp w5 HFA.out.1.2.1 HPS.out (HP.out.keep HK5.out) HEN.out).mono ?_; rintro e w6 ⟨⟨ue, ua⟩, rfl, hq6, hk6⟩; have HQ4 := hide1 hq6; have HK6 := hide1 (gtrans HK5.out hk6); clear hq6 hk6)
          go_ret2
          refine ⟨(ue, ua), rfl, ?_, HK6.out⟩
          by_cases hx4 : ue = 0
          · subst hx4
            have ha : ua = 0 := by
              rcases HQ4.out with ⟨i, _, _, _, e⟩ | ⟨_, e⟩
              · simp at e
              · simpa using e
            subst ha
            exact (HP4.out.next (by omega) (x := (0, 0)) HQ4.out rfl).rest (0, 0) rfl
          · exact HP4.out.stop (by omega) (x := (ue, ua)) HQ4.out hx4
        · have b3 : (ze == 0) = false := by simpa using hx3
          have HF := hide1 (HP3.out.stop (by omega) (x := (ze, za)) HQ3.out hx3)
          clear hx3
          go_wp2_with fail
          go_ret2
          exact ⟨(ze, za), rfl, HF.out, HK5.out⟩
      · have b2 : (ye == 0) = false := by simpa using hx2
        have HF := hide1 (HP2.out.stop (by omega) (x := (ye, ya)) HQ2.out hx2)
        clear hx2
        go_wp2_with fail
        go_ret2
        exact ⟨(ye, ya), rfl, HF.out, HK4.out⟩
    · have b1 : (xe == 0) = false := by simpa using hx1
      have HF := hide1 (HP1.out.stop (by omega) (x := (xe, xa)) HQ1.out hx1)
      clear hx1
      go_wp2_with fail
      go_ret2
      exact ⟨(xe, xa), rfl, HF.out, HK3.out⟩

end Ex
end Go.Proofs.YtooelfjceehmmaaDoor
namespace Go.Proofs.YtooelfjceehmmaaDoor
open Go.RowKit
attribute [local go_sem] Oper.semAt_some
namespace Ex

theorem ints_blk {w : World} {g : Nat} {t : TypeId} {l : List Int} (h : Blk w g (l.map fun x => [Value.int .i64 x]).flatten t) (hn : l.length ≤ 1000) {n : Nat} (hnn : l.length = n) : IntsR w (.slice (some ⟨g, 0, none⟩) n n) l := by
  refine slice_blk h (fun c hc => ?_) (by rw [List.length_map]) (by omega) (fun i cs x h1 h2 => ?_) hnn
  · obtain ⟨x, _, rfl⟩ := List.mem_map.1 hc
    rfl
  · rw [List.getElem?_map, h2] at h1
    have e : cs = [.int .i64 x] := by simpa using h1.symm
    exact e
theorem rows_blk {w : World} {g : Nat} {t : TypeId} {v0 v1 v2 : Value} {l0 l1 l2 : List Int} (h : Blk w g [[v0], [v1], [v2]].flatten t) (h0 : IntsR w v0 l0) (h1 : IntsR w v1 l1) (h2 : IntsR w v2 l2) : RowsR w (.slice (some ⟨g, 0, none⟩) 3 3) [l0, l1, l2] := by
  refine slice_blk (sz := 1) (xs := [l0, l1, l2]) h (fun c hc => ?_) rfl (by simp) (fun i cs x q1 q2 => ?_) rfl
  · simp only [List.mem_cons, List.not_mem_nil, or_false] at hc
    rcases hc with rfl | rfl | rfl <;> rfl
  · match i, q1, q2 with
    | 0, q1, q2 =>
      have e1 : [v0] = cs := by simpa using q1
      have e2 : l0 = x := by simpa using q2
      subst e1 e2
      exact ⟨_, rfl, h0⟩
    | 1, q1, q2 =>
      have e1 : [v1] = cs := by simpa using q1
      have e2 : l1 = x := by simpa using q2
      subst e1 e2
      exact ⟨_, rfl, h1⟩
    | 2, q1, q2 =>
      have e1 : [v2] = cs := by simpa using q1
      have e2 : l2 = x := by simpa using q2
      subst e1 e2
      exact ⟨_, rfl, h2⟩
    | i + 3, q1, _ => simp at q1
theorem rows_one (W : World) : RowsR ((((W.alloc (.cells #[.int .i64 5] 3)).alloc (.cells #[.int .i64 0, .int .i64 1, .int .i64 3] 3)).alloc (.cells #[.int .i64 3] 3)).alloc (.cells #[.slice (some ⟨W.heap.size, 0, none⟩) 1 1, .slice (some ⟨W.heap.size + 1, 0, none⟩) 3 3, .slice (some ⟨W.heap.size + 1 + 1, 0, none⟩) 1 1] 41)) (.slice (some ⟨W.heap.size + 1 + 1 + 1, 0, none⟩) 3 3) [[5], [0, 1, 3], [3]] := by
  have k1 : ∀ (X : World) c t, Kept X (X.alloc (.cells c t)) := fun X c t => (Kept.refl X).alloc _ _
  have h0 : Blk (W.alloc (.cells #[.int .i64 5] 3)) W.heap.size ([5].map fun x => [Value.int .i64 x]).flatten 3 := heap_alloc_new W _
  have h1 : Blk ((W.alloc (.cells #[.int .i64 5] 3)).alloc (.cells #[.int .i64 0, .int .i64 1, .int .i64 3] 3)) (W.heap.size + 1) ([0, 1, 3].map fun x => [Value.int .i64 x]).flatten 3 := by
    have h := heap_alloc_new (W.alloc (.cells #[.int .i64 5] 3)) (.cells #[.int .i64 0, .int .i64 1, .int .i64 3] 3)
    rw [World.size_alloc] at h
    exact h
  have h2 : Blk (((W.alloc (.cells #[.int .i64 5] 3)).alloc (.cells #[.int .i64 0, .int .i64 1, .int .i64 3] 3)).alloc (.cells #[.int .i64 3] 3)) (W.heap.size + 1 + 1) ([3].map fun x => [Value.int .i64 x]).flatten 3 := by
    have h := heap_alloc_new ((W.alloc (.cells #[.int .i64 5] 3)).alloc (.cells #[.int .i64 0, .int .i64 1, .int .i64 3] 3)) (.cells #[.int .i64 3] 3)
    rw [World.size_alloc, World.size_alloc] at h
    exact h
  refine rows_blk ?_ (ints_blk (((h0.keep (k1 _ _ _)).keep (k1 _ _ _)).keep (k1 _ _ _)) (by decide) rfl) (ints_blk ((h1.keep (k1 _ _ _)).keep (k1 _ _ _)) (by decide) rfl) (ints_blk (h2.keep (k1 _ _ _)) (by decide) rfl) (t := 41)
  have h := heap_alloc_new (((W.alloc (.cells #[.int .i64 5] 3)).alloc (.cells #[.int .i64 0, .int .i64 1, .int .i64 3] 3)).alloc (.cells #[.int .i64 3] 3)) (.cells #[.slice (some ⟨W.heap.size, 0, none⟩) 1 1, .slice (some ⟨W.heap.size + 1, 0, none⟩) 3 3, .slice (some ⟨W.heap.size + 1 + 1, 0, none⟩) 1 1] 41)
  rw [World.size_alloc, World.size_alloc, World.size_alloc] at h
  exact h
theorem rows_two (W : World) : RowsR ((W.alloc (.cells #[.int .i64 3] 3)).alloc (.cells #[.slice (some ⟨W.heap.size, 0, none⟩) 1 1, .slice none 0 0, .slice none 0 0] 41)) (.slice (some ⟨W.heap.size + 1, 0, none⟩) 3 3) [[3], [], []] := by
  have k1 : ∀ (X : World) c t, Kept X (X.alloc (.cells c t)) := fun X c t => (Kept.refl X).alloc _ _
  have h0 : Blk (W.alloc (.cells #[.int .i64 3] 3)) W.heap.size ([3].map fun x => [Value.int .i64 x]).flatten 3 := heap_alloc_new W _
  have hn : ∀ X : World, IntsR X (.slice none 0 0) [] := fun X => ⟨none, 0, rfl, Nat.le_refl _, by simp, .inl rfl⟩
  refine rows_blk ?_ (ints_blk (h0.keep (k1 _ _ _)) (by decide) rfl) (hn _) (hn _) (t := 41)
  have h := heap_alloc_new (W.alloc (.cells #[.int .i64 3] 3)) (.cells #[.slice (some ⟨W.heap.size, 0, none⟩) 1 1, .slice none 0 0, .slice none 0 0] 41)
  rw [World.size_alloc] at h
  exact h
/-- Rows of the call's own and no fault. -/
def TellR (ls : List (List Int)) (w : World) (e : Ending) (w' : World) : Prop := ∃ g, e = .returned (.tuple #[.slice (some ⟨g, 0, none⟩) 3 3, .agg #[.int .i64 0, .int .i64 0, .string ⟨#[]⟩]]) ∧ RowsR w' (.slice (some ⟨g, 0, none⟩) 3 3) ls ∧ Kept w w'
theorem follow_fix (a1 a2 a3 : Option Addr) (w : World) (hl : LexAt w 0 (.slice a1 4 4) lexS) (hp : ProdsAt w (.slice a3 6 6) psS) (hT : TabAt w) : Calls Tryd.prog 21 #[.agg #[.slice a1 4 4, .slice a2 3 3, .int .i64 0, .slice a3 6 6]] w (TellR [[5], [0, 1, 3], [3]] w) := by
  refine (sFollow_is 0 lexS psS a1 a2 a3 4 4 3 3 6 6 0 w (by decide) rfl rfl hl hp hT).mono ?_
  rintro e w' ⟨x, hq, hk, h⟩
  have hx := checkQ_one hq check_small
  subst hx
  rcases h with ⟨h, _⟩ | ⟨_, v, rfl, F, G, _, hF, hG, hR⟩
  · exact absurd rfl h
  · have hR : RowsO w' w.heap.size v ((List.range 3).map fun i => bitsTo (G i) 128) := hR
    rw [follow_small hF hG] at hR
    obtain ⟨g, rfl⟩ := hR.form
    exact ⟨g, rfl, hR.read (by decide) (by decide), hk⟩
theorem yields_fix (a1 a2 a3 : Option Addr) (w : World) (hl : LexAt w 0 (.slice a1 4 4) lexS) (hp : ProdsAt w (.slice a3 6 6) psS) (hT : TabAt w) : Calls Tryd.prog 22 #[.agg #[.slice a1 4 4, .slice a2 3 3, .int .i64 0, .slice a3 6 6]] w (TellR [[3], [], []] w) := by
  refine (sYields_is 0 lexS psS a1 a2 a3 4 4 3 3 6 6 0 w (by decide) rfl rfl hl hp hT).mono ?_
  rintro e w' ⟨x, hq, hk, h⟩
  have hx := checkQ_one hq check_small
  subst hx
  rcases h with ⟨h, _⟩ | ⟨_, y, v, rfl, L, _, hY, hor⟩
  · exact absurd rfl h
  · obtain ⟨h1, h2⟩ := yields_small hY
    rcases hor with ⟨i, hi, hn, _⟩ | ⟨_, rfl, hR⟩
    · exact absurd hn (h1 i hi)
    · rw [h2] at hR
      obtain ⟨g, rfl⟩ := hR.form
      exact ⟨g, rfl, hR.read (by decide) (by decide), hk⟩
set_option linter.unusedSimpArgs false in
set_option maxRecDepth 100000 in
set_option maxHeartbeats 4000000 in
/-- The fixed spec is asked: all is as it must be. -/
theorem head_is7 (w : World) (hT : TabAt w) : Calls Tryd.prog 6 #[] w fun e w' => e = .returned (.bool true) ∧ Kept w w' := by
  have HT := hide1 hT
  clear hT
  go_enter Tryd.func6, Tryd.ntmps6
  go_upto_region 2 with (go_at_call 23; refine (sSmall_is _).mono ?_; rintro e w1 ⟨g1, g2, g3, rfl, hl1, hp1, hk1⟩; have HL1 := hide1 hl1; have HP1 := hide1 hp1; have HK1 := hide1 hk1; clear hl1 hp1 hk1)
  have HS2 := hide1 (SBox.new w1 (.slice (some ⟨g1, 0, none⟩) 4 4) (.slice (some ⟨g2, 0, none⟩) 3 3) (.int .i64 0) (.slice (some ⟨g3, 0, none⟩) 6 6))
  have HK2 : Hid (Kept w1 (w1.alloc (.cells #[.slice (some ⟨g1, 0, none⟩) 4 4, .slice (some ⟨g2, 0, none⟩) 3 3, .int .i64 0, .slice (some ⟨g3, 0, none⟩) 6 6] 26))) := (Kept.refl w1).alloc _ _
  obtain ⟨W2, hW2⟩ : ∃ W2, w1.alloc (.cells #[.slice (some ⟨g1, 0, none⟩) 4 4, .slice (some ⟨g2, 0, none⟩) 3 3, .int .i64 0, .slice (some ⟨g3, 0, none⟩) 6 6] 26) = W2 := ⟨_, rfl⟩
  rw [hW2] at HS2 HK2 ⊢
  clear hW2
  obtain ⟨sb, hsb⟩ : ∃ sb, w1.heap.size = sb := ⟨_, rfl⟩
  rw [hsb] at HS2 ⊢
  clear hsb
  have HKW2 := hide1 (gtrans HK1.out HK2.out)
  obtain ⟨s0, s1, s2, s3⟩ := HS2.out.facts
  go_upto_region 3 with (go_at_call 21; refine (follow_fix _ _ _ _ (HL1.out.keep HK2.out) (HP1.out.keep HK2.out) (HT.out.keep HKW2.out)).mono ?_; rintro e w3 ⟨ga, rfl, hr3, hk3⟩; have HR3 := hide1 hr3; have HK3 := hide1 hk3; clear hr3 hk3)
  clear s0 s1 s2 s3
  have HF4 : Hid (FlBox (w3.alloc (.cells #[.int .i64 0, .int .i64 0, .string ⟨#[]⟩] 44)) w3.heap.size 0 0) := heap_alloc_new w3 _
  have HK4 := hide1 (gtrans HK3.out ((Kept.refl w3).alloc #[.int .i64 0, .int .i64 0, .string ⟨#[]⟩] 44))
  have HR4 := hide1 (HR3.out.keep ((Kept.refl w3).alloc #[.int .i64 0, .int .i64 0, .string ⟨#[]⟩] 44))
  obtain ⟨W4, hW4⟩ : ∃ W4, w3.alloc (.cells #[.int .i64 0, .int .i64 0, .string ⟨#[]⟩] 44) = W4 := ⟨_, rfl⟩
  rw [hW4] at HF4 HK4 HR4 ⊢
  clear hW4
  obtain ⟨fa, hfa⟩ : ∃ fa, w3.heap.size = fa := ⟨_, rfl⟩
  rw [hfa] at HF4 ⊢
  clear hfa
  have HKW4 := hide1 (gtrans HKW2.out HK4.out)
  have HS4 := hide1 (HS2.out.keep HK4.out)
  obtain ⟨s0, s1, s2, s3⟩ := HS4.out.facts
  go_upto_region 4 with (go_at_call 22; refine (yields_fix _ _ _ _ (HL1.out.keep (gtrans HK2.out HK4.out)) (HP1.out.keep (gtrans HK2.out HK4.out)) (HT.out.keep HKW4.out)).mono ?_; rintro e w5 ⟨gb, rfl, hr5, hk5⟩; have HR5 := hide1 hr5; have HK5 := hide1 hk5; clear hr5 hk5)
  clear s0 s1 s2 s3
  have HF6 : Hid (FlBox (w5.alloc (.cells #[.int .i64 0, .int .i64 0, .string ⟨#[]⟩] 44)) w5.heap.size 0 0) := heap_alloc_new w5 _
  have HK6 := hide1 (gtrans HK5.out ((Kept.refl w5).alloc #[.int .i64 0, .int .i64 0, .string ⟨#[]⟩] 44))
  have HR6 := hide1 (HR5.out.keep ((Kept.refl w5).alloc #[.int .i64 0, .int .i64 0, .string ⟨#[]⟩] 44))
  obtain ⟨W6, hW6⟩ : ∃ W6, w5.alloc (.cells #[.int .i64 0, .int .i64 0, .string ⟨#[]⟩] 44) = W6 := ⟨_, rfl⟩
  rw [hW6] at HF6 HK6 HR6 ⊢
  clear hW6
  obtain ⟨fb, hfb⟩ : ∃ fb, w5.heap.size = fb := ⟨_, rfl⟩
  rw [hfb] at HF6 ⊢
  clear hfb
  have HKW6 := hide1 (gtrans HKW4.out HK6.out)
  obtain ⟨⟨f0, f1, f2⟩, _⟩ := (HF4.out.keep HK6.out).cells
  obtain ⟨⟨f3, f4, f5⟩, _⟩ := HF6.out.cells
  have HRA := hide1 (HR4.out.keep HK6.out)
  go_wp2_with fail
  refine (sameRowsS_is _ _ 3 3 3 3 [[5], [0, 1, 3], [3]] [[5], [0, 1, 3], [3]] _ rfl rfl (HRA.out.keep ((((((Kept.refl W6).alloc _ _).alloc _ _).alloc _ _).alloc _ _))) (rows_one W6)).mono ?_
  rintro e w7 ⟨rfl, hk7⟩
  have HK7 : Hid (Kept W6 w7) := gtrans ((((((Kept.refl W6).alloc _ _).alloc _ _).alloc _ _).alloc _ _)) hk7
  rw [show decide (([[5], [0, 1, 3], [3]] : List (List Int)) = [[5], [0, 1, 3], [3]]) = true from by decide]
  clear hk7
  go_wp2_with fail
  refine (sameRowsS_is _ _ 3 3 3 3 [[3], [], []] [[3], [], []] _ rfl rfl ((HR6.out.keep HK7.out).keep ((((Kept.refl w7).alloc _ _).alloc _ _))) (rows_two w7)).mono ?_
  rintro e w8 ⟨rfl, hk8⟩
  have HK8 : Hid (Kept w7 w8) := gtrans ((((Kept.refl w7).alloc _ _).alloc _ _)) hk8
  rw [show decide (([[3], [], []] : List (List Int)) = [[3], [], []]) = true from by decide]
  clear hk8
  go_wp2_with fail
  go_ret
  exact ⟨rfl, gtrans HKW6.out (gtrans HK7.out HK8.out)⟩

end Ex
end Go.Proofs.YtooelfjceehmmaaDoor
