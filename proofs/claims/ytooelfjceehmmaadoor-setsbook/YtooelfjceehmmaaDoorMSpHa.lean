import Derived.Test.YtooelfjceehmmaaDoorMSpQu
namespace Go.Proofs.YtooelfjceehmmaaDoor
open Go.RowKit
attribute [local go_sem] Oper.semAt_some
namespace Ex

/-- The fault of a row of symbols. -/
def rowQ {k : Nat} (lex : List (LexM k)) (nn : Nat) (row : List SymM) : Int × Int := if 16 < row.length then (2, 0) else ((wrongP lex nn row).2, (wrongP lex nn row).1)
set_option linter.unusedSimpArgs false in
set_option maxRecDepth 100000 in
set_option maxHeartbeats 4000000 in
/-- checkRow of any row. -/
theorem checkRow_is (k : Nat) (a b ar : Option Addr) (n c n2 c2 nr cr : Nat) (lex : List (LexM k)) (row : List SymM) (vp : Value) (st : Int) (w : World) (hlex : lex.length = n) (hrow : row.length = nr) (hn2 : n2 ≤ 17592186044416) (hl : LexAt w k (.slice a n c) lex) (hr : RightAt w (.slice ar nr cr) row) :
    Calls Tryd.prog 28 #[.agg #[.slice a n c, .slice b n2 c2, .int .i64 st, vp], .slice ar nr cr] w fun e w' => e = .returned (faultV (rowQ lex n2 row)) ∧ Kept w w' := by
  obtain ⟨_, _, e1, hc, hn⟩ := hr.len
  simp only [Value.slice.injEq] at e1
  obtain ⟨rfl, en, rfl⟩ := e1
  clear en
  rw [hrow] at hc hn
  have gn : (nr : Int) ≤ 17592186044416 := by omega
  obtain ⟨h1, h2, h3⟩ := chk_start w (.slice a n c) (.slice b n2 c2) (.int .i64 st) vp
  have HB := hide1 h1
  have HF := hide1 h2
  have HK := hide1 h3
  have HL := hide1 hl
  have HR := hide1 hr
  have HLEN := hide1 hlex
  have HROW := hide1 hrow
  have HN2 := hide1 hn2
  clear h1 h2 h3 hl hr hlex hrow hn2
  go_enter Tryd.func28, Tryd.ntmps28
  go_upto_region 1 with fail
  obtain ⟨W, hW⟩ : ∃ W, (w.alloc (.cells #[.slice a n c, .slice b n2 c2, .int .i64 st, vp] 26)).alloc (.cells #[.int .i64 0, .int .i64 0, .string ⟨#[]⟩] 44) = W := ⟨_, rfl⟩
  rw [hW] at HB HF HK ⊢
  clear hW
  obtain ⟨d, hd⟩ : ∃ d, w.heap.size = d := ⟨_, rfl⟩
  rw [hd] at HB HF ⊢
  have HSZ := hide1 hd
  clear hd
  by_cases h16 : (16 : Int) < (nr : Int)
  · have HE : Hid (rowQ lex n2 row = (2, 0)) := hide1 (by unfold rowQ; rw [if_pos (by have := HROW.out; omega)])
    obtain ⟨⟨f0, f1, f2⟩, z0, z1, z2⟩ := HF.out.cells
    go_wp2_with fail
    refine bodyPost_ret (results_cell_row rfl _ _ (d + 1) 44 _ (0, 0) _ rfl (HF.out.fill 2 0) Tryd.underlying44 rfl (fault_size _ _)) rfl ?_
    exact ⟨by rw [HE.out]; rfl, keepB (keepB (keepB HK.out (by rw [HSZ.out]; omega)) (by rw [HSZ.out]; omega)) (by rw [HSZ.out]; omega)⟩
  · obtain ⟨s0, s1, s2, s3⟩ := HB.out.facts
    obtain ⟨pa, pe, hpp⟩ : ∃ pa pe, wrongP lex n2 row = (pa, pe) := ⟨_, _, rfl⟩
    have HE : Hid (rowQ lex n2 row = (pe, pa)) := hide1 (by unfold rowQ; rw [if_neg (by have := HROW.out; omega), hpp])
    have HPP := hide1 hpp
    clear hpp
    go_upto_region 4 with (go_at_call 55; refine (firstWrong_is k a b ar n c n2 c2 nr cr lex row HLEN.out HROW.out HN2.out vp st _ (HL.out.keep HK.out) (HR.out.keep HK.out)).mono ?_; rintro e w6 ⟨rfl, hk6⟩; rw [HPP.out]; have HK6 := hide1 hk6; clear hk6)
    clear s0 s1 s2 s3
    have HF6 := hide1 (HF.out.keep HK6.out)
    have HKw6 := hide1 (gtrans HK.out HK6.out)
    obtain ⟨⟨f0, f1, f2⟩, z0, z1, z2⟩ := HF6.out.cells
    go_wp2_with fail
    refine bodyPost_ret (results_cell_row rfl _ _ (d + 1) 44 _ (0, 0) _ rfl (HF6.out.fill pe pa) Tryd.underlying44 rfl (fault_size _ _)) rfl ?_
    exact ⟨by rw [HE.out]; rfl, keepB (keepB (keepB HKw6.out (by rw [HSZ.out]; omega)) (by rw [HSZ.out]; omega)) (by rw [HSZ.out]; omega)⟩
/-- The number of a terminal. -/
def TermOk {k : Nat} (lex : List (LexM k)) (nl : Nat) (z : Int) : Prop := 0 ≤ z ∧ z < (nl : Int) + 2 ∧ ¬ (z < (nl : Int) ∧ (lex[z.toNat]?.map (·.2.1)).getD false = true)
/-- The set of a list's numbers. -/
def bitsL (l : List Int) : Nat := l.foldl (fun A z => A ||| 2 ^ z.toNat) 0
theorem bitsL_snoc (l : List Int) (z : Int) : bitsL (l ++ [z]) = bitsL l ||| 2 ^ z.toNat := by unfold bitsL; rw [List.foldl_append]; rfl
theorem bitsL_bit (l : List Int) (hl : ∀ z ∈ l, 0 ≤ z) (t : Nat) : (bitsL l).testBit t = true ↔ (t : Int) ∈ l := by
  have key : ∀ (l : List Int), (∀ z ∈ l, 0 ≤ z) → ∀ A : Nat, (l.foldl (fun A z => A ||| 2 ^ z.toNat) A).testBit t = true ↔ A.testBit t = true ∨ (t : Int) ∈ l := by
    intro l
    induction l with
    | nil => intro _ A; simp
    | cons z l ih =>
      intro h A
      rw [List.foldl_cons, ih (fun y hy => h y (List.mem_cons_of_mem _ hy)), Nat.testBit_or, Nat.testBit_two_pow, List.mem_cons]
      have h0 := h z List.mem_cons_self
      have e : decide (z.toNat = t) = true ↔ (t : Int) = z := by
        rw [decide_eq_true_eq]
        omega
      rw [Bool.or_eq_true, e, or_assoc]
  have h := key l hl 0
  rw [Nat.zero_testBit] at h
  unfold bitsL
  rw [h]
  exact ⟨fun h => h.elim (fun h => by cases h) id, Or.inr⟩
theorem results_two_rows {P : Program} {fn : Func} {p q : Tmp} {ty tz : TypeId} (h : fn.results = #[.cell p ty, .cell q tz]) (tmps : Array Value) (w : World) (g g2 : Nat) (t t2 : TypeId) (cs cs2 : Array Value) (fr fr2 : Nat × Nat) (d d2 : TypeDesc)
    (hp : tmps.getD p undef = .pointer (some ⟨g, 0, none⟩)) (hg : w.heap[g]? = some (.cells cs t fr)) (hu : P.underlying ty = some d) (hd : (match d with | .struct _ | .array _ _ => true | _ => false) = true) (hi : (P.info? ty).map (·.size) = some cs.size)
    (hq : tmps.getD q undef = .pointer (some ⟨g2, 0, none⟩)) (hg2 : w.heap[g2]? = some (.cells cs2 t2 fr2)) (hu2 : P.underlying tz = some d2) (hd2 : (match d2 with | .struct _ | .array _ _ => true | _ => false) = true) (hi2 : (P.info? tz).map (·.size) = some cs2.size) :
    (results fn tmps).run P w = .ok (.tuple #[.agg cs, .agg cs2]) w := by
  have hp' : tmps[p]?.getD undef = .pointer (some ⟨g, 0, none⟩) := by simpa using hp
  have hq' : tmps[q]?.getD undef = .pointer (some ⟨g2, 0, none⟩) := by simpa using hq
  simp [results, h, hp', hq', asAddr, run_loadVar_row w g t ty cs fr d hg hu hd hi, run_loadVar_row w g2 t2 tz cs2 fr2 d2 hg2 hu2 hd2 hi2]

end Ex
end Go.Proofs.YtooelfjceehmmaaDoor
namespace Go.Proofs.YtooelfjceehmmaaDoor
open Go.RowKit
attribute [local go_sem] Oper.semAt_some
namespace Ex

theorem SetB.zero (w : World) : SetB (w.alloc (.cells #[.int .u64 0, .int .u64 0] 75)) w.heap.size 0 := heap_alloc_new w _
/-- What terminals answers. -/
def TermR {k : Nat} (lex : List (LexM k)) (nl : Nat) (next : List Int) (w : World) (e : Ending) (w' : World) : Prop := Kept w w' ∧ ((∃ (i : Nat) (z : Int), next[i]? = some z ∧ ¬ TermOk lex nl z ∧ (∀ x ∈ next.take i, TermOk lex nl x) ∧ e = .returned (.tuple #[.agg (setS 0), faultV (74, (i : Int))])) ∨ ((∀ z ∈ next, TermOk lex nl z) ∧ e = .returned (.tuple #[.agg (setS (bitsL next)), faultV (0, 0)])))
def TmI {k : Nat} (lex : List (LexM k)) (nl : Nat) (next : List Int) (b : Nat) (x0 x1 x2 x3 : Value) (w : World) (vi : Value) (wr : World) : Prop := ∃ j : Nat, vi = .int .i64 (j : Int) ∧ j ≤ next.length ∧ Hid (∀ z ∈ next.take j, TermOk lex nl z) ∧ Hid (SetB wr (b + 1 + 1 + 1) (bitsL (next.take j))) ∧ Hid (SetB wr (b + 1) 0 ∧ FlBox wr (b + 1 + 1) 0 0 ∧ SBox wr b x0 x1 x2 x3) ∧ Hid (Kept w wr)
set_option linter.unusedSimpArgs false in
set_option maxRecDepth 100000 in
set_option maxHeartbeats 8000000 in
/-- terminals of any list. -/
theorem terminals_is (k : Nat) (a ax : Option Addr) (nl c m cx : Nat) (lex : List (LexM k)) (next : List Int) (x1 x2 x3 : Value) (w : World) (hlex : lex.length = nl) (hnl : nl ≤ 64) (hm : next.length = m) (hl : LexAt w k (.slice a nl c) lex) (hx : SliceOf w 1 (fun cs x => cs = [Value.int .i64 x]) (.slice ax m cx) next) :
    Calls Tryd.prog 29 #[.agg #[.slice a nl c, x1, x2, x3], .slice ax m cx] w (TermR lex nl next w) := by
  obtain ⟨_, _, e1, hc, hn⟩ := SliceOf.len hx
  simp only [Value.slice.injEq] at e1
  obtain ⟨rfl, en, rfl⟩ := e1
  clear en
  rw [hm] at hc hn
  have gn : (m : Int) ≤ 17592186044416 := by omega
  have gnl : (nl : Int) ≤ 64 := by omega
  have HL := hide1 hl
  have HX := hide1 hx
  have HLEN := hide1 hlex
  have HM := hide1 hm
  clear hl hx hlex hm
  go_enter Tryd.func29, Tryd.ntmps29
  go_upto_region 2 with fail
  obtain ⟨b, hb⟩ : ∃ b, w.heap.size = b := ⟨_, rfl⟩
  have HS : Hid (SetB ((((w.alloc (.cells #[.slice a nl c, x1, x2, x3] 26)).alloc (.cells #[.int .u64 0, .int .u64 0] 75)).alloc (.cells #[.int .i64 0, .int .i64 0, .string ⟨#[]⟩] 44)).alloc (.cells #[.int .u64 0, .int .u64 0] 75)) (b + 1 + 1 + 1) 0) := hide1 (by
    have h := SetB.zero (((w.alloc (.cells #[.slice a nl c, x1, x2, x3] 26)).alloc (.cells #[.int .u64 0, .int .u64 0] 75)).alloc (.cells #[.int .i64 0, .int .i64 0, .string ⟨#[]⟩] 44))
    rw [show (((w.alloc (.cells #[.slice a nl c, x1, x2, x3] 26)).alloc (.cells #[.int .u64 0, .int .u64 0] 75)).alloc (.cells #[.int .i64 0, .int .i64 0, .string ⟨#[]⟩] 44)).heap.size = b + 1 + 1 + 1 by simp [hb]] at h
    exact h)
  have HO : Hid (SetB ((((w.alloc (.cells #[.slice a nl c, x1, x2, x3] 26)).alloc (.cells #[.int .u64 0, .int .u64 0] 75)).alloc (.cells #[.int .i64 0, .int .i64 0, .string ⟨#[]⟩] 44)).alloc (.cells #[.int .u64 0, .int .u64 0] 75)) (b + 1) 0 ∧ FlBox ((((w.alloc (.cells #[.slice a nl c, x1, x2, x3] 26)).alloc (.cells #[.int .u64 0, .int .u64 0] 75)).alloc (.cells #[.int .i64 0, .int .i64 0, .string ⟨#[]⟩] 44)).alloc (.cells #[.int .u64 0, .int .u64 0] 75)) (b + 1 + 1) 0 0 ∧ SBox ((((w.alloc (.cells #[.slice a nl c, x1, x2, x3] 26)).alloc (.cells #[.int .u64 0, .int .u64 0] 75)).alloc (.cells #[.int .i64 0, .int .i64 0, .string ⟨#[]⟩] 44)).alloc (.cells #[.int .u64 0, .int .u64 0] 75)) b (.slice a nl c) x1 x2 x3) := hide1 (by
    refine ⟨?_, ?_, ?_⟩
    · have h := SetB.zero (w.alloc (.cells #[.slice a nl c, x1, x2, x3] 26))
      rw [show (w.alloc (.cells #[.slice a nl c, x1, x2, x3] 26)).heap.size = b + 1 by simp [hb]] at h
      exact h.keep (((Kept.refl _).alloc _ _).alloc _ _)
    · have h := FlBox.new ((w.alloc (.cells #[.slice a nl c, x1, x2, x3] 26)).alloc (.cells #[.int .u64 0, .int .u64 0] 75))
      rw [show ((w.alloc (.cells #[.slice a nl c, x1, x2, x3] 26)).alloc (.cells #[.int .u64 0, .int .u64 0] 75)).heap.size = b + 1 + 1 by simp [hb]] at h
      exact h.keep ((Kept.refl _).alloc _ _)
    · have h := SBox.new w (.slice a nl c) x1 x2 x3
      rw [hb] at h
      exact h.keep ((((Kept.refl _).alloc _ _).alloc _ _).alloc _ _))
  have HK : Hid (Kept w ((((w.alloc (.cells #[.slice a nl c, x1, x2, x3] 26)).alloc (.cells #[.int .u64 0, .int .u64 0] 75)).alloc (.cells #[.int .i64 0, .int .i64 0, .string ⟨#[]⟩] 44)).alloc (.cells #[.int .u64 0, .int .u64 0] 75))) := hide1 (((((Kept.refl w).alloc _ _).alloc _ _).alloc _ _).alloc _ _)
  obtain ⟨W, hW⟩ : ∃ W, (((w.alloc (.cells #[.slice a nl c, x1, x2, x3] 26)).alloc (.cells #[.int .u64 0, .int .u64 0] 75)).alloc (.cells #[.int .i64 0, .int .i64 0, .string ⟨#[]⟩] 44)).alloc (.cells #[.int .u64 0, .int .u64 0] 75) = W := ⟨_, rfl⟩
  rw [hW] at HS HO HK ⊢
  clear hW
  rw [hb]
  have HSZ := hide1 hb
  clear hb
  go_wp2_with fail
  go_loopw [11] (TmI lex nl next b (.slice a nl c) x1 x2 x3 w) (fun i _ => m - (intOf i).toNat)
  case atStart => exact ⟨0, rfl, Nat.zero_le _, (fun z hz => by simp at hz), HS, HO, HK⟩
  case round =>
    obtain ⟨j, rfl, hj, HT, HSr, HOr, HKr⟩ := hrel
    rw [HM.out] at hj
    by_cases hlt : (j : Int) < (m : Int)
    · obtain ⟨z, hz⟩ : ∃ z, next[j]? = some z := ⟨_, List.getElem?_eq_getElem (by have := HM.out; omega)⟩
      obtain ⟨cb, ob, cs, ea, hcb, hlen, hcell, hcs⟩ := SliceOf.el (SliceOf.mono HX.out HKr.out (fun _ _ h => h)) hz
      have hcs : cs = [.int .i64 z] := hcs
      subst ea hcs
      have k0 : wr.cell? ⟨cb, ob + j * 1 + 0, none⟩ = some (.int .i64 z) := hcell 0 _ rfl
      rw [Nat.mul_one, Nat.add_zero] at k0
      have gjc : (j : Int) < (cx : Int) := by omega
      obtain ⟨s0, s1, s2, s3⟩ := HOr.out.2.2.facts
      have HZ := hide1 hz
      have HBAD : Hid (¬ TermOk lex nl z → ∃ (i : Nat) (z : Int), next[i]? = some z ∧ ¬ TermOk lex nl z ∧ (∀ x ∈ next.take i, TermOk lex nl x) ∧ Ending.returned (.tuple #[.agg (setS 0), faultV (74, (j : Int))]) = .returned (.tuple #[.agg (setS 0), faultV (74, (i : Int))])) := hide1 (fun h => ⟨j, z, HZ.out, h, HT.out, rfl⟩)
      clear hz hcell hlen
      by_cases hw : 0 ≤ z ∧ z < (nl : Int) + 2
      · obtain ⟨p, rfl⟩ : ∃ p : Nat, z = (p : Int) := ⟨z.toNat, by omega⟩
        have hp2 : p < 128 := by omega
        have gp : (p : Int) < 128 := by omega
        have bw : (decide (0 ≤ (p : Int)) && decide ((p : Int) < (nl : Int) + 2)) = true := by simp; omega
        by_cases hpn : (p : Int) < (nl : Int)
        · obtain ⟨x, hx⟩ : ∃ x, lex[p]? = some x := ⟨_, List.getElem?_eq_getElem (by have := HLEN.out; omega)⟩
          obtain ⟨lb, lo, ls, ea, hlb, hlen, hcell, v', hls, _, _⟩ := (HL.out.keep HKr.out).el hx
          subst ea hls
          have k1 := hcell 1 _ rfl
          obtain ⟨tr, htr⟩ : ∃ tr, x.2.1 = tr := ⟨_, rfl⟩
          rw [htr] at k1
          have gpc : (p : Int) < (c : Int) := by
            obtain ⟨_, _, e1, hc1, _⟩ := (HL.out).len
            simp only [Value.slice.injEq] at e1
            have := e1.2.2
            have := HLEN.out
            omega
          have HTR : Hid ((lex[(p : Int).toNat]?.map (·.2.1)).getD false = tr) := hide1 (by rw [Int.toNat_natCast, hx, Option.map_some, Option.getD_some, htr])
          clear hx hcell hlen htr
          cases tr
          · have HTO : Hid (TermOk lex nl (p : Int)) := hide1 ⟨hw.1, hw.2, fun h => by rw [HTR.out] at h; exact absurd h.2 (by decide)⟩
            go_upto_region 7 with (first | (go_at_call 57; refine (sEnd_is _ nl c (nl + 1) rfl (by omega) x1 x2 x3 _).mono ?_; rintro e w5 ⟨rfl, hk5⟩; have HK5 := hide1 hk5; clear hk5; have HK5w := hide1 (gtrans HKr.out HK5.out); obtain ⟨s0, s1, s2, s3⟩ := (HOr.out.2.2.keep HK5.out).facts; have k1 := grown_cell HK5.out k1) | (go_at_call 56; refine (within_at _ _ true bw _).mono ?_; rintro e w6 ⟨rfl, hw6⟩; have hw6 := hw6.symm; subst hw6))
            clear s0 s1 s2 s3 k0
            obtain ⟨B, hB⟩ : ∃ B, bitsL (next.take j) = B := ⟨_, rfl⟩
            have HS5 := hide1 (HSr.out.keep HK5.out)
            rw [hB] at HS5
            have HBN : Hid (bitsL (next.take (j + 1)) = B ||| 2 ^ p) := hide1 (by rw [List.take_add_one, HZ.out]; show bitsL (next.take j ++ [(p : Int)]) = _; rw [bitsL_snoc, hB]; rfl)
            have HTN : Hid (∀ z ∈ next.take (j + 1), TermOk lex nl z) := hide1 (by
              rw [List.take_add_one, HZ.out]
              intro y hy
              rcases List.mem_append.1 hy with hy | hy
              · exact HT.out y hy
              · simp at hy; rw [hy]; exact HTO.out)
            clear hB
            have c0 := HS5.out.cell (i := 0) (by omega)
            have c1 := HS5.out.cell (i := 1) (by omega)
            go_wp2_with (go_at_call 58; refine (sWith_is B p hp2 _).mono ?_; rintro e w7 ⟨rfl, hk7⟩; rw [setS_eq]; have HK7 := hide1 hk7; clear c0 c1; have c0 := (HS5.out.keep hk7).cell (i := 0) (by omega); have c1 := (HS5.out.keep hk7).cell (i := 1) (by omega); have z0 := (HS5.out.keep hk7).free 0; have z1 := (HS5.out.keep hk7).free 1; clear hk7)
            have HS7 : Hid (SetB ((w7.setCell ⟨b + 1 + 1 + 1, 0, none⟩ (.int .u64 (wordAt (B ||| 2 ^ p) 0 : Nat))).setCell ⟨b + 1 + 1 + 1, 1, none⟩ (.int .u64 (wordAt (B ||| 2 ^ p) 1 : Nat))) (b + 1 + 1 + 1) (bitsL (next.take (j + 1)))) := hide1 (by rw [HBN.out]; exact (HS5.out.keep HK7.out).fill)
            have HBU : Hid (KeptBut (b + 1 + 1 + 1) w7 ((w7.setCell ⟨b + 1 + 1 + 1, 0, none⟩ (.int .u64 (wordAt (B ||| 2 ^ p) 0 : Nat))).setCell ⟨b + 1 + 1 + 1, 1, none⟩ (.int .u64 (wordAt (B ||| 2 ^ p) 1 : Nat)))) := but_set (but_set (but_refl _ _) _ _) _ _
            have HO7 : Hid (SetB _ (b + 1) 0 ∧ FlBox _ (b + 1 + 1) 0 0 ∧ SBox _ b (.slice _ nl c) x1 x2 x3) := hide1 ⟨(HBU.out.2.2.2.2 _ (HOr.out.1.keep (gtrans HK5.out HK7.out)).lt (by omega)).trans (HOr.out.1.keep (gtrans HK5.out HK7.out)), (HBU.out.2.2.2.2 _ (HOr.out.2.1.keep (gtrans HK5.out HK7.out)).lt (by omega)).trans (HOr.out.2.1.keep (gtrans HK5.out HK7.out)), (HBU.out.2.2.2.2 _ (HOr.out.2.2.keep (gtrans HK5.out HK7.out)).lt (by omega)).trans (HOr.out.2.2.keep (gtrans HK5.out HK7.out))⟩
            have HK7w := hide1 (KeptBut.up (gtrans HK5w.out HK7.out) (by rw [HSZ.out]; omega) HBU.out)
            clear c0 c1 z0 z1
            generalize (w7.setCell ⟨b + 1 + 1 + 1, 0, none⟩ (.int .u64 (wordAt (B ||| 2 ^ p) 0 : Nat))).setCell ⟨b + 1 + 1 + 1, 1, none⟩ (.int .u64 (wordAt (B ||| 2 ^ p) 1 : Nat)) = W7 at HS7 HO7 HK7w HBU ⊢
            go_wp2_with fail
            go_roundw
            case rel => exact ⟨j + 1, by go_num, by rw [HM.out]; omega, HTN, HS7, HO7, HK7w⟩
            case measure => simp [intOf]; omega
          · have HNO : Hid (¬ TermOk lex nl (p : Int)) := hide1 (fun h => h.2.2 ⟨hpn, HTR.out⟩)
            clear hw
            go_upto_region 6 with (first | (go_at_call 57; refine (sEnd_is _ nl c (nl + 1) rfl (by omega) x1 x2 x3 _).mono ?_; rintro e w5 ⟨rfl, hk5⟩; have HK5 := hide1 hk5; clear hk5; have HK5w := hide1 (gtrans HKr.out HK5.out); obtain ⟨s0, s1, s2, s3⟩ := (HOr.out.2.2.keep HK5.out).facts; have k1 := grown_cell HK5.out k1) | (go_at_call 56; refine (within_at _ _ true bw _).mono ?_; rintro e w6 ⟨rfl, hw6⟩; have hw6 := hw6.symm; subst hw6))
            clear s0 s1 s2 s3 k0
            have HO5 : Hid (SetB w5 (b + 1) 0 ∧ FlBox w5 (b + 1 + 1) 0 0) := hide1 ⟨HOr.out.1.keep HK5.out, HOr.out.2.1.keep HK5.out⟩
            have r0 := HO5.out.1.cell (i := 0) (by omega)
            have r1 := HO5.out.1.cell (i := 1) (by omega)
            have y0 := HO5.out.1.free 0
            have y1 := HO5.out.1.free 1
            obtain ⟨⟨f0, f1, f2⟩, z0, z1, z2⟩ := HO5.out.2.cells
            go_wp2_with fail
            have HR1 := hide1 (HO5.out.1.fill (B := 0))
            have HF1 : Hid (FlBox ((w5.setCell ⟨b + 1, 0, none⟩ (.int .u64 (wordAt 0 0 : Nat))).setCell ⟨b + 1, 1, none⟩ (.int .u64 (wordAt 0 1 : Nat))) (b + 1 + 1) 0 0) := hide1 ((heap_set_ne (by omega)).trans ((heap_set_ne (by omega)).trans HO5.out.2))
            refine bodyPost_ret (results_two_rows rfl _ _ (b + 1) (b + 1 + 1) 75 44 (setS 0) _ (0, 0) (0, 0) _ _ rfl ((heap_set_ne (by omega)).trans ((heap_set_ne (by omega)).trans ((heap_set_ne (by omega)).trans HR1.out))) Tryd.underlying75 rfl (set2_size _) rfl (HF1.out.fill 74 (j : Int)) Tryd.underlying44 rfl (fault_size _ _)) rfl ?_
            exact ⟨keepB (keepB (keepB (keepB (keepB HK5w.out (by rw [HSZ.out]; omega)) (by rw [HSZ.out]; omega)) (by rw [HSZ.out]; omega)) (by rw [HSZ.out]; omega)) (by rw [HSZ.out]; omega), .inl (HBAD.out HNO.out)⟩
        · have HTO : Hid (TermOk lex nl (p : Int)) := hide1 ⟨hw.1, hw.2, fun h => hpn h.1⟩
          go_upto_region 7 with (first | (go_at_call 57; refine (sEnd_is _ nl c (nl + 1) rfl (by omega) x1 x2 x3 _).mono ?_; rintro e w5 ⟨rfl, hk5⟩; have HK5 := hide1 hk5; clear hk5; have HK5w := hide1 (gtrans HKr.out HK5.out); obtain ⟨s0, s1, s2, s3⟩ := (HOr.out.2.2.keep HK5.out).facts) | (go_at_call 56; refine (within_at _ _ true bw _).mono ?_; rintro e w6 ⟨rfl, hw6⟩; have hw6 := hw6.symm; subst hw6))
          clear s0 s1 s2 s3 k0
          obtain ⟨B, hB⟩ : ∃ B, bitsL (next.take j) = B := ⟨_, rfl⟩
          have HS5 := hide1 (HSr.out.keep HK5.out)
          rw [hB] at HS5
          have HBN : Hid (bitsL (next.take (j + 1)) = B ||| 2 ^ p) := hide1 (by rw [List.take_add_one, HZ.out]; show bitsL (next.take j ++ [(p : Int)]) = _; rw [bitsL_snoc, hB]; rfl)
          have HTN : Hid (∀ z ∈ next.take (j + 1), TermOk lex nl z) := hide1 (by
            rw [List.take_add_one, HZ.out]
            intro y hy
            rcases List.mem_append.1 hy with hy | hy
            · exact HT.out y hy
            · simp at hy; rw [hy]; exact HTO.out)
          clear hB
          have c0 := HS5.out.cell (i := 0) (by omega)
          have c1 := HS5.out.cell (i := 1) (by omega)
          go_wp2_with (go_at_call 58; refine (sWith_is B p hp2 _).mono ?_; rintro e w7 ⟨rfl, hk7⟩; rw [setS_eq]; have HK7 := hide1 hk7; clear c0 c1; have c0 := (HS5.out.keep hk7).cell (i := 0) (by omega); have c1 := (HS5.out.keep hk7).cell (i := 1) (by omega); have z0 := (HS5.out.keep hk7).free 0; have z1 := (HS5.out.keep hk7).free 1; clear hk7)
          have HS7 : Hid (SetB ((w7.setCell ⟨b + 1 + 1 + 1, 0, none⟩ (.int .u64 (wordAt (B ||| 2 ^ p) 0 : Nat))).setCell ⟨b + 1 + 1 + 1, 1, none⟩ (.int .u64 (wordAt (B ||| 2 ^ p) 1 : Nat))) (b + 1 + 1 + 1) (bitsL (next.take (j + 1)))) := hide1 (by rw [HBN.out]; exact (HS5.out.keep HK7.out).fill)
          have HBU : Hid (KeptBut (b + 1 + 1 + 1) w7 ((w7.setCell ⟨b + 1 + 1 + 1, 0, none⟩ (.int .u64 (wordAt (B ||| 2 ^ p) 0 : Nat))).setCell ⟨b + 1 + 1 + 1, 1, none⟩ (.int .u64 (wordAt (B ||| 2 ^ p) 1 : Nat)))) := but_set (but_set (but_refl _ _) _ _) _ _
          have HO7 : Hid (SetB _ (b + 1) 0 ∧ FlBox _ (b + 1 + 1) 0 0 ∧ SBox _ b (.slice _ nl c) x1 x2 x3) := hide1 ⟨(HBU.out.2.2.2.2 _ (HOr.out.1.keep (gtrans HK5.out HK7.out)).lt (by omega)).trans (HOr.out.1.keep (gtrans HK5.out HK7.out)), (HBU.out.2.2.2.2 _ (HOr.out.2.1.keep (gtrans HK5.out HK7.out)).lt (by omega)).trans (HOr.out.2.1.keep (gtrans HK5.out HK7.out)), (HBU.out.2.2.2.2 _ (HOr.out.2.2.keep (gtrans HK5.out HK7.out)).lt (by omega)).trans (HOr.out.2.2.keep (gtrans HK5.out HK7.out))⟩
          have HK7w := hide1 (KeptBut.up (gtrans HK5w.out HK7.out) (by rw [HSZ.out]; omega) HBU.out)
          clear c0 c1 z0 z1
          generalize (w7.setCell ⟨b + 1 + 1 + 1, 0, none⟩ (.int .u64 (wordAt (B ||| 2 ^ p) 0 : Nat))).setCell ⟨b + 1 + 1 + 1, 1, none⟩ (.int .u64 (wordAt (B ||| 2 ^ p) 1 : Nat)) = W7 at HS7 HO7 HK7w HBU ⊢
          go_wp2_with fail
          go_roundw
          case rel => exact ⟨j + 1, by go_num, by rw [HM.out]; omega, HTN, HS7, HO7, HK7w⟩
          case measure => simp [intOf]; omega
      · have bw : (decide (0 ≤ z) && decide (z < (nl : Int) + 2)) = false := by simp; omega
        have HNO : Hid (¬ TermOk lex nl z) := hide1 (fun h => hw ⟨h.1, h.2.1⟩)
        clear hw
        go_upto_region 6 with (first | (go_at_call 57; refine (sEnd_is _ nl c (nl + 1) rfl (by omega) x1 x2 x3 _).mono ?_; rintro e w5 ⟨rfl, hk5⟩; have HK5 := hide1 hk5; clear hk5; have HK5w := hide1 (gtrans HKr.out HK5.out); obtain ⟨s0, s1, s2, s3⟩ := (HOr.out.2.2.keep HK5.out).facts) | (go_at_call 56; refine (within_at _ _ false bw _).mono ?_; rintro e w6 ⟨rfl, hw6⟩; have hw6 := hw6.symm; subst hw6))
        clear s0 s1 s2 s3 k0
        have HO5 : Hid (SetB w5 (b + 1) 0 ∧ FlBox w5 (b + 1 + 1) 0 0) := hide1 ⟨HOr.out.1.keep HK5.out, HOr.out.2.1.keep HK5.out⟩
        have r0 := HO5.out.1.cell (i := 0) (by omega)
        have r1 := HO5.out.1.cell (i := 1) (by omega)
        have y0 := HO5.out.1.free 0
        have y1 := HO5.out.1.free 1
        obtain ⟨⟨f0, f1, f2⟩, z0, z1, z2⟩ := HO5.out.2.cells
        go_wp2_with fail
        have HR1 := hide1 (HO5.out.1.fill (B := 0))
        have HF1 : Hid (FlBox ((w5.setCell ⟨b + 1, 0, none⟩ (.int .u64 (wordAt 0 0 : Nat))).setCell ⟨b + 1, 1, none⟩ (.int .u64 (wordAt 0 1 : Nat))) (b + 1 + 1) 0 0) := hide1 ((heap_set_ne (by omega)).trans ((heap_set_ne (by omega)).trans HO5.out.2))
        refine bodyPost_ret (results_two_rows rfl _ _ (b + 1) (b + 1 + 1) 75 44 (setS 0) _ (0, 0) (0, 0) _ _ rfl ((heap_set_ne (by omega)).trans ((heap_set_ne (by omega)).trans ((heap_set_ne (by omega)).trans HR1.out))) Tryd.underlying75 rfl (set2_size _) rfl (HF1.out.fill 74 (j : Int)) Tryd.underlying44 rfl (fault_size _ _)) rfl ?_
        exact ⟨keepB (keepB (keepB (keepB (keepB HK5w.out (by rw [HSZ.out]; omega)) (by rw [HSZ.out]; omega)) (by rw [HSZ.out]; omega)) (by rw [HSZ.out]; omega)) (by rw [HSZ.out]; omega), .inl (HBAD.out HNO.out)⟩
    · have HALL : Hid (∀ z ∈ next, TermOk lex nl z) := hide1 (by
        have h := HT.out
        rw [List.take_of_length_le (by have := HM.out; omega)] at h
        exact h)
      have HSA : Hid (SetB wr (b + 1 + 1 + 1) (bitsL next)) := hide1 (by
        have h := HSr.out
        rw [List.take_of_length_le (by have := HM.out; omega)] at h
        exact h)
      obtain ⟨B, hB⟩ : ∃ B, bitsL next = B := ⟨_, rfl⟩
      rw [hB] at HSA
      have HB := hide1 hB
      clear hB
      have c0 := HSA.out.cell (i := 0) (by omega)
      have c1 := HSA.out.cell (i := 1) (by omega)
      have r0 := HOr.out.1.cell (i := 0) (by omega)
      have r1 := HOr.out.1.cell (i := 1) (by omega)
      have y0 := HOr.out.1.free 0
      have y1 := HOr.out.1.free 1
      obtain ⟨⟨f0, f1, f2⟩, z0, z1, z2⟩ := HOr.out.2.1.cells
      go_wp2_with fail
      have HR1 := hide1 (HOr.out.1.fill (B := B))
      have HF1 : Hid (FlBox ((wr.setCell ⟨b + 1, 0, none⟩ (.int .u64 (wordAt B 0 : Nat))).setCell ⟨b + 1, 1, none⟩ (.int .u64 (wordAt B 1 : Nat))) (b + 1 + 1) 0 0) := hide1 ((heap_set_ne (by omega)).trans ((heap_set_ne (by omega)).trans HOr.out.2.1))
      refine bodyPost_ret (results_two_rows rfl _ _ (b + 1) (b + 1 + 1) 75 44 (setS B) _ (0, 0) (0, 0) _ _ rfl ((heap_set_ne (by omega)).trans ((heap_set_ne (by omega)).trans ((heap_set_ne (by omega)).trans HR1.out))) Tryd.underlying75 rfl (set2_size _) rfl (HF1.out.fill 0 0) Tryd.underlying44 rfl (fault_size _ _)) rfl ?_
      exact ⟨keepB (keepB (keepB (keepB (keepB HKr.out (by rw [HSZ.out]; omega)) (by rw [HSZ.out]; omega)) (by rw [HSZ.out]; omega)) (by rw [HSZ.out]; omega)) (by rw [HSZ.out]; omega), .inr ⟨HALL.out, by rw [HB.out]; rfl⟩⟩

end Ex
end Go.Proofs.YtooelfjceehmmaaDoor
