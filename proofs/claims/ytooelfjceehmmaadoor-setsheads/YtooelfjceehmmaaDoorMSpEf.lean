import Derived.Test.YtooelfjceehmmaaDoorMSpEd
import Derived.Test.YtooelfjceehmmaaDoorMSpHc
import Derived.OwnWalk
import Derived.Test.YtooelfjceehmmaaDoorMSpSpec
import Derived.Test.YtooelfjceehmmaaDoorMSpLc
import Derived.Test.YtooelfjceehmmaaDoorMSpSp
import Derived.Test.YtooelfjceehmmaaDoorMSpLd2
namespace Go.Proofs.YtooelfjceehmmaaDoor
open Go.RowKit
attribute [local go_sem] Oper.semAt_some
namespace Ex

/-- What the document's Heads answers of a spec in order: the list, a place, an error. -/
def HdD {k : Nat} (lex : List (LexM k)) (ps : List ProdM) (nn nl : Nat) (row : List SymM) (next : List Int) (base : Nat) (e : Ending) (w' : World) : Prop :=
  ((rowQ lex nn row).1 ≠ 0 ∧ e = .returned (.tuple #[.slice none 0 0, .int .i64 (rowQ lex nn row).2, .int .i64 (rowQ lex nn row).1])) ∨
  ((rowQ lex nn row).1 = 0 ∧ ∃ (i : Nat) (z : Int), next[i]? = some z ∧ ¬ TermOk lex nl z ∧ (∀ x ∈ next.take i, TermOk lex nl x) ∧ e = .returned (.tuple #[.slice none 0 0, .int .i64 (i : Int), .int .i64 74])) ∨
  ((rowQ lex nn row).1 = 0 ∧ (∀ z ∈ next, TermOk lex nl z) ∧ ∃ (v : Value) (E : Nat) (F : Nat → Nat), e = .returned (.tuple #[v, .int .i64 0, .int .i64 0]) ∧ (∀ n, E.testBit n = true ↔ Mk false ps n) ∧ (∀ x, famS F x ↔ Fi nl (Mk false ps) ps x) ∧ IntsO w' base v (bitsTo (headsM nl E F (bitsL next) row 0) (nl + 2)))
def HeadsD {k : Nat} (lex : List (LexM k)) (ps : List ProdM) (nn nl : Nat) (st : Int) (row : List SymM) (next : List Int) (w : World) (e : Ending) (w' : World) : Prop := ∃ x : Int × Int, CheckQ lex ps nn nl st x ∧ Kept w w' ∧ ((x.1 ≠ 0 ∧ e = .returned (.tuple #[.slice none 0 0, .int .i64 x.2, .int .i64 x.1])) ∨ (x.1 = 0 ∧ HdD lex ps nn nl row next w.heap.size e w'))
def HrI {k : Nat} (lex : List (LexM k)) (nn : Nat) (row : List SymM) (W : World) (v10 vi : Value) (wr : World) : Prop := ∃ m : Nat, v10 = .int .i64 0 ∧ vi = .int .i64 (m : Int) ∧ m ≤ row.length ∧ Hid (wrongP lex nn row = wrongF lex nn m (row.drop m)) ∧ Hid (Kept W wr)
def HnI {k : Nat} (lex : List (LexM k)) (nl : Nat) (next : List Int) (g : Nat) (W : World) (vi : Value) (wr : World) : Prop := ∃ (m : Nat) (zs : List Bool), vi = .int .i64 (m : Int) ∧ m ≤ next.length ∧ Hid (zs.length = nl + 2) ∧ Hid (bitsOf zs = bitsL (next.take m)) ∧ Hid (∀ x ∈ next.take m, TermOk lex nl x) ∧ Hid (TabB wr g zs) ∧ Hid (Kept W wr)
theorem intsO_low {w : World} {base b : Nat} {v : Value} {l : List Int} (h : IntsO w base v l) (hb : b ≤ base) : IntsO w b v l := by
  have h2 : w.ownsRow base 3 1 v l.length (flatS l) := h
  refine ⟨h2.1, ?_⟩
  rcases h2.2 with ⟨e, h0⟩ | ⟨g, cap, cur, e, hg0, rest⟩
  · exact .inl ⟨e, h0⟩
  · exact .inr ⟨g, cap, cur, e, Nat.le_trans hb hg0, rest⟩
theorem restQ_zero2 {k : Nat} {lex : List (LexM k)} {ps : List ProdM} {nn nl : Nat} {st : Int} : ∀ (m j : Nat) (x : Int × Int), restQ lex ps nn nl st m j x → x.1 = 0 → x = (0, 0)
  | 0, _, _, h, _ => h
  | m + 1, j, x, ⟨a, _, h⟩, hx => by
    rcases h with ⟨hn, rfl⟩ | ⟨_, h⟩
    · exact absurd hx hn
    · exact restQ_zero2 m (j + 1) x h hx
theorem checkQ_zero2 {k : Nat} {lex : List (LexM k)} {ps : List ProdM} {nn nl : Nat} {st : Int} {x : Int × Int} (h : CheckQ lex ps nn nl st x) (hx : x.1 = 0) : x = (0, 0) := restQ_zero2 5 0 x h hx
/-- What is known of a spec in order. -/
theorem check_facts {k : Nat} {lex : List (LexM k)} {ps : List ProdM} {nn nl : Nat} {st : Int} (hlex : lex.length = nl) (hq : CheckQ lex ps nn nl st (0, 0)) : (nl ≤ 64 ∧ nn ≤ 128 ∧ 0 < nn) ∧ ∀ p ∈ ps, (0 ≤ p.1 ∧ p.1 < (nn : Int)) ∧ ∀ x ∈ p.2, symErr lex nn x = 0 := by
  obtain ⟨a, h0, h1⟩ := hq
  rcases h1 with ⟨hn, e⟩ | ⟨z0, h1⟩
  · rw [← e] at hn; exact absurd rfl hn
  have p1 := (passed_zero lex ps nn nl st).next (by omega) h0 z0
  obtain ⟨a2, h2, h3⟩ := h1
  rcases h3 with ⟨hn, e⟩ | ⟨z1, _⟩
  · rw [← e] at hn; exact absurd rfl hn
  have p2 := p1.next (by omega) h2 z1
  obtain ⟨h1, _, _⟩ := p2.facts hlex (Nat.le_refl _)
  exact ⟨⟨h1.1, h1.2.1, by omega⟩, p2.exact hlex (Nat.le_refl _)⟩
set_option linter.unusedSimpArgs false in
set_option maxRecDepth 100000 in
set_option maxHeartbeats 16000000 in
theorem dHeads_is (k : Nat) (lex : List (LexM k)) (ps : List ProdM) (al an ap ar ax : Option Addr) (nl cl nn cn np cp nr cr mx cx : Nat) (st : Int) (row : List SymM) (next : List Int) (w : World) (hnn : nn ≤ 17592186044416) (hlex : lex.length = nl) (hps : ps.length = np) (hrow : row.length = nr) (hnx : next.length = mx) (hl : LexAt w k (.slice al nl cl) lex) (hp : ProdsAt w (.slice ap np cp) ps) (hr : RightAt w (.slice ar nr cr) row) (hx : SliceOf w 1 (fun cs x => cs = [Value.int .i64 x]) (.slice ax mx cx) next) :
    Calls Tryd.prog 16 #[.agg #[.slice al nl cl, .slice an nn cn, .int .i64 st, .slice ap np cp], .slice ar nr cr, .slice ax mx cx] w (HeadsD lex ps nn nl st row next w) := by
  have HK1 : Hid (Kept w (w.alloc (.cells #[.slice al nl cl, .slice an nn cn, .int .i64 st, .slice ap np cp] 26))) := (Kept.refl w).alloc _ _
  have HB1 := hide1 (SBox.new w (.slice al nl cl) (.slice an nn cn) (.int .i64 st) (.slice ap np cp))
  have HP := hide1 hp
  have HPS := hide1 hps
  have HL := hide1 hl
  have HLEN := hide1 hlex
  have HNN := hide1 hnn
  have HR := hide1 hr
  have HROW := hide1 hrow
  have HX := hide1 hx
  have HNX := hide1 hnx
  obtain ⟨_, _, e1, hcr, hr44⟩ := hr.len
  simp only [Value.slice.injEq] at e1
  obtain ⟨rfl, en, rfl⟩ := e1
  clear en
  rw [hrow] at hcr hr44
  obtain ⟨_, _, e1, hcx, hx44⟩ := SliceOf.len hx
  simp only [Value.slice.injEq] at e1
  obtain ⟨rfl, en, rfl⟩ := e1
  clear en
  rw [hnx] at hcx hx44
  have gr : (nr : Int) ≤ 17592186044416 := by omega
  have gx : (mx : Int) ≤ 17592186044416 := by omega
  clear hp hps hl hlex hnn hr hrow hx hnx
  go_enter Tryd.func16, Tryd.ntmps16
  go_upto_region 1 with fail
  obtain ⟨W0, hW0⟩ : ∃ W0, w.alloc (.cells #[.slice al nl cl, .slice an nn cn, .int .i64 st, .slice ap np cp] 26) = W0 := ⟨_, rfl⟩
  rw [hW0] at HK1 HB1 ⊢
  clear hW0
  obtain ⟨b, hb⟩ : ∃ b, w.heap.size = b := ⟨_, rfl⟩
  rw [hb] at HB1 ⊢
  clear hb
  obtain ⟨s0, s1, s2, s3⟩ := HB1.out.facts
  go_upto_region 2 with (go_at_call 34; refine (dCheck_is k lex ps al an ap nl cl nn cn np cp st W0 HNN.out HLEN.out HPS.out (HL.out.keep HK1.out) (HP.out.keep HK1.out)).mono ?_; rintro e W ⟨⟨xe, xa⟩, rfl, hq2, hk2⟩; have HQ := hide1 hq2; have HK2 := hide1 hk2; clear hq2 hk2)
  clear s0 s1 s2 s3
  have HBW := hide1 (HB1.out.keep HK2.out)
  have HKW := hide1 (gtrans HK1.out HK2.out)
  by_cases hx0 : xe = 0
  · subst hx0
    have HQ0 : Hid (CheckQ lex ps nn nl st (0, 0)) := by have := checkQ_zero2 HQ.out rfl; rw [this] at HQ; exact HQ.out
    have HFA := hide1 (check_facts HLEN.out HQ0.out)
    by_cases h16 : (16 : Int) < (nr : Int)
    · have HRQ : Hid (rowQ lex nn row = (2, 0)) := by show _ = _; unfold rowQ; rw [if_pos (by have := HROW.out; omega)]
      go_wp2_with fail
      go_ret3
      exact ⟨(0, 0), HQ0.out, HKW.out, .inr ⟨rfl, .inl ⟨by rw [HRQ.out]; decide, by rw [HRQ.out]; rfl⟩⟩⟩
    · have HRQ : Hid (rowQ lex nn row = ((wrongP lex nn row).2, (wrongP lex nn row).1)) := by show _ = _; unfold rowQ; rw [if_neg (by have := HROW.out; omega)]
      have hn128 : nn ≤ 128 := HFA.out.1.2.1
      have gl : (nl : Int) ≤ 64 := by have := HFA.out.1.1; omega
      go_wp2_with fail
      go_loopw [10, 11] (HrI lex nn row W) (fun _ i _ => nr - (intOf i).toNat)
      case atStart => exact ⟨0, rfl, rfl, Nat.zero_le _, rfl, Kept.refl W⟩
      case round =>
        obtain ⟨m, rfl, rfl, hm, HWR, HKr⟩ := hrel
        rw [HROW.out] at hm
        by_cases hlt : (m : Int) < (nr : Int)
        · obtain ⟨x, hx⟩ : ∃ x, row[m]? = some x := ⟨_, List.getElem?_eq_getElem (by have := HROW.out; omega)⟩
          obtain ⟨cr2, or2, cs2, ea2, hcb2, hlen2, hcell2, hcs2⟩ := SliceOf.el (HR.out.keep (gtrans HKW.out HKr.out)) hx
          have hcs2 : cs2 = [.int .i64 x.1, .int .i64 x.2] := hcs2
          subst ea2 hcs2
          have HD : Hid (row.drop m = x :: row.drop (m + 1)) := by
            obtain ⟨hm2, e⟩ := List.getElem?_eq_some_iff.1 hx
            show _ = _
            rw [List.drop_eq_getElem_cons hm2, e]
          obtain ⟨kd, sn⟩ := x
          have q0 : ∀ w', Kept wr w' → w'.cell? ⟨cr2, or2 + m * 2, none⟩ = some (.int .i64 kd) := kcellS (hcell2 0 _ rfl)
          have q1 : ∀ w', Kept wr w' → w'.cell? ⟨cr2, or2 + m * 2 + 1, none⟩ = some (.int .i64 sn) := kcellS (hcell2 1 _ rfl)
          obtain ⟨s0, s1, s2, s3⟩ := (HBW.out.keep HKr.out).facts
          have n0 := kcellS s0
          have n1 := kcellS s1
          have n2 := kcellS s2
          have n3 := kcellS s3
          have gmc : (m : Int) < (cr : Int) := by omega
          have hkr : Kept wr wr := Kept.refl wr
          obtain ⟨se, hse⟩ : ∃ se, symErr lex nn (kd, sn) = se := ⟨_, rfl⟩
          have HSE := hide1 hse
          have HSY : Hid (∀ w', Kept wr w' → Calls Tryd.prog 35 #[.agg #[.slice al nl cl, .slice an nn cn, .int .i64 st, .slice ap np cp], .agg #[.int .i64 kd, .int .i64 sn]] w' fun e w2 => e = .returned (.int .i64 se) ∧ Kept w' w2) := fun w' hk' => by rw [← hse]; exact dSymbol_is k al an nl cl nn cn lex HLEN.out HNN.out (.slice ap np cp) st kd sn w' (HL.out.keep (gtrans HKW.out (gtrans HKr.out hk')))
          clear hx hcell2 s0 s1 s2 s3 hse
          go_upto_region 9 with fail
          go_region_held3 (fun w' => Kept wr w') (first | assumption | exact Kept.refl _ | exact drew_kept _)
            ((go_at_call 35; refine (HSY.out _ (by first | assumption | exact drew_kept _ | exact Kept.refl _)).mono ?_; rintro e w3 ⟨rfl, hw3⟩; have k9 : Kept wr w3 := gtrans (by first | assumption | exact drew_kept _ | exact Kept.refl _) hw3; clear hw3))
          have HK9 := hide1 (gtrans HKr.out k9)
          clear q0 q1 n0 n1 n2 n3 hkr k9 HSY
          by_cases hs0 : se = 0
          · subst hs0
            have HW2 : Hid (wrongP lex nn row = wrongF lex nn (m + 1) (row.drop (m + 1))) := by
              show _ = _
              rw [HWR.out, HD.out]
              show (if symErr lex nn (kd, sn) = 0 then _ else _) = _
              rw [if_pos HSE.out]
            go_wp2_with fail
            go_roundw
            case rel => exact ⟨m + 1, rfl, by go_num, by rw [HROW.out]; omega, HW2, HK9⟩
            case measure => simp [intOf]; omega
          · have b1 : (se != 0) = true := by simpa using hs0
            have HW2 : Hid (rowQ lex nn row = (se, (m : Int))) := by
              show _ = _
              rw [HRQ.out, HWR.out, HD.out]
              show ((if symErr lex nn (kd, sn) = 0 then _ else _ : Int × Int).2, (if symErr lex nn (kd, sn) = 0 then _ else _ : Int × Int).1) = _
              rw [if_neg (by rw [HSE.out]; exact hs0), HSE.out]
            have HS0 := hide1 hs0
            clear hs0
            go_wp2_with fail
            go_ret3
            exact ⟨(0, 0), HQ0.out, gtrans HKW.out HK9.out, .inr ⟨rfl, .inl ⟨by rw [HW2.out]; exact HS0.out, by rw [HW2.out]; rfl⟩⟩⟩
        · have HROK : Hid ((rowQ lex nn row).1 = 0) := by
            show _ = _
            rw [HRQ.out, HWR.out, List.drop_eq_nil_of_le (by have := HROW.out; omega)]
            rfl
          obtain ⟨s0, s1, s2, s3⟩ := (HBW.out.keep HKr.out).facts
          have hnl64 : nl ≤ 64 := HFA.out.1.1
          go_upto_region 13 with (go_at_call 36; refine (dNone_is al nl cl (.slice an nn cn) (.int .i64 st) (.slice ap np cp) wr hnl64).mono ?_; rintro e w1 ⟨g, rfl, hg, ht1, hk1⟩; have HGG := hide1 hg; have HT1 := hide1 ht1; have HKa := hide1 hk1; clear hg ht1 hk1)
          clear s0 s1 s2 s3
          have HKb := hide1 (gtrans HKr.out HKa.out)
          have HWG : Hid (wr.heap.size ≤ g) := HGG
          go_wp2_with fail
          go_loopw [13] (HnI lex nl next g wr) (fun i _ => mx - (intOf i).toNat)
          case atStart => exact ⟨0, _, rfl, Nat.zero_le _, List.length_replicate, (by show _ = _; rw [bits_false]; rfl), fun x hx => (by simp at hx), HT1, HKa⟩
          case round =>
            obtain ⟨y, zs, rfl, hy, HZL, HZB, HTO, HTZ, HKy⟩ := hrel
            rw [HNX.out] at hy
            have HKYW := hide1 (gtrans HKr.out HKy.out)
            by_cases hly : (y : Int) < (mx : Int)
            · obtain ⟨z, hz⟩ : ∃ z, next[y]? = some z := ⟨_, List.getElem?_eq_getElem (by have := HNX.out; omega)⟩
              obtain ⟨cx2, ox2, cs3, ea3, hcb3, hlen3, hcell3, hcs3⟩ := SliceOf.el (SliceOf.mono HX.out (gtrans HKW.out HKYW.out) (fun _ _ h => h)) hz
              have hcs3 : cs3 = [.int .i64 z] := hcs3
              subst ea3 hcs3
              have qz : wr.cell? ⟨cx2, ox2 + y, none⟩ = some (.int .i64 z) := by have := hcell3 0 _ rfl; simpa using this
              obtain ⟨s0, s1, s2, s3⟩ := (HBW.out.keep HKYW.out).facts
              have n0 := kcellS s0
              have n1 := kcellS s1
              have n2 := kcellS s2
              have n3 := kcellS s3
              have n4 := kcellS qz
              have gyc : (y : Int) < (cx : Int) := by omega
              have hkr : Kept wr wr := Kept.refl wr
              have HZ := hide1 hz
              clear hz hcell3 s0 s1 s2 s3 qz
              by_cases hok : TermOk lex nl z
              · have HTM : Hid (∀ w', Kept wr w' → Calls Tryd.prog 37 #[.agg #[.slice al nl cl, .slice an nn cn, .int .i64 st, .slice ap np cp], .int .i64 z] w' fun e w2 => e = .returned (.bool true) ∧ Kept w' w2) := fun w' hk' => (dTerminal_is k lex al nl cl (.slice an nn cn) (.int .i64 st) (.slice ap np cp) z w' hnl64 HLEN.out (HL.out.keep (gtrans HKW.out (gtrans HKYW.out hk')))).mono (fun e w2 ⟨tb, h1, h2, h3⟩ => ⟨by rw [h1, h2.2 hok], h3⟩)
                obtain ⟨q, rfl⟩ : ∃ q : Nat, z = (q : Int) := ⟨z.toNat, by have := hok.1; omega⟩
                have gq2 : (q : Int) < (nl : Int) + 2 := hok.2.1
                have HOKZ := hide1 hok
                clear hok
                go_upto_region 16 with fail
                go_region_held3 (fun w' => Kept wr w') (first | assumption | exact Kept.refl _ | exact drew_kept _)
                  ((go_at_call 37; refine (HTM.out _ (by first | assumption | exact drew_kept _ | exact Kept.refl _)).mono ?_; rintro e w3 ⟨rfl, hw3⟩; have k9 : Kept wr w3 := gtrans (by first | assumption | exact drew_kept _ | exact Kept.refl _) hw3; clear hw3))
                have HK9 := hide1 k9
                have c4 := n4 w3 k9
                have HT9 := hide1 (HTZ.out.keep k9)
                obtain ⟨u, hu⟩ : ∃ u, zs[q]? = some u := ⟨_, List.getElem?_eq_getElem (by have := HZL.out; omega)⟩
                have c5 := HT9.out.cell hu
                have z5 := HT9.out.free q
                clear n0 n1 n2 n3 n4 hkr k9 HTM hu
                have HZ2 : Hid (bitsOf (zs.set q true) = bitsL (next.take (y + 1))) := by
                  show _ = _
                  rw [bits_set (by have := HZL.out; omega), HZB.out, List.take_add_one, HZ.out]
                  show _ = bitsL (next.take y ++ [(q : Int)])
                  rw [bitsL_snoc, Int.toNat_natCast]
                have HTO2 : Hid (∀ x ∈ next.take (y + 1), TermOk lex nl x) := by
                  intro x hx
                  rw [List.take_add_one, HZ.out] at hx
                  rcases List.mem_append.1 hx with h | h
                  · exact HTO.out x h
                  · have e : x = (q : Int) := by simpa using h
                    rw [e]; exact HOKZ.out
                go_wp2_with fail
                go_roundw
                case rel => exact ⟨y + 1, zs.set q true, by go_num, by rw [HNX.out]; omega, (by show _ = _; rw [List.length_set]; exact HZL.out), HZ2, HTO2, HT9.out.set, keepB (gtrans HKy.out HK9.out) HWG.out⟩
                case measure => simp [intOf]; omega
              · have HTM : Hid (∀ w', Kept wr w' → Calls Tryd.prog 37 #[.agg #[.slice al nl cl, .slice an nn cn, .int .i64 st, .slice ap np cp], .int .i64 z] w' fun e w2 => e = .returned (.bool false) ∧ Kept w' w2) := fun w' hk' => (dTerminal_is k lex al nl cl (.slice an nn cn) (.int .i64 st) (.slice ap np cp) z w' hnl64 HLEN.out (HL.out.keep (gtrans HKW.out (gtrans HKYW.out hk')))).mono (fun e w2 ⟨tb, h1, h2, h3⟩ => ⟨by cases tb with | false => exact h1 | true => exact absurd (h2.1 rfl) hok, h3⟩)
                have HOKZ := hide1 hok
                clear hok
                go_upto_region 16 with fail
                go_region_held3 (fun w' => Kept wr w') (first | assumption | exact Kept.refl _ | exact drew_kept _)
                  ((go_at_call 37; refine (HTM.out _ (by first | assumption | exact drew_kept _ | exact Kept.refl _)).mono ?_; rintro e w3 ⟨rfl, hw3⟩; have k9 : Kept wr w3 := gtrans (by first | assumption | exact drew_kept _ | exact Kept.refl _) hw3; clear hw3))
                have HK9 := hide1 k9
                clear n0 n1 n2 n3 n4 hkr k9 HTM
                go_wp2_with fail
                go_ret3
                exact ⟨(0, 0), HQ0.out, gtrans HKW.out (gtrans HKYW.out HK9.out), .inr ⟨rfl, .inr (.inl ⟨HROK.out, y, z, HZ.out, HOKZ.out, HTO.out, rfl⟩)⟩⟩
            · have HALL : Hid (∀ z ∈ next, TermOk lex nl z) := by
                have h1 := HTO.out
                rw [List.take_of_length_le (by have := HNX.out; omega)] at h1
                exact h1
              have HBL : Hid (bitsOf zs = bitsL next) := by
                have h1 := HZB.out
                rw [List.take_of_length_le (by have := HNX.out; omega)] at h1
                exact h1
              have HEN := hide1 (exact_names HLEN.out HFA.out.2)
              have HROS := hide1 (row_oks HROK.out).2
              go_upto_region 19 with fail
              refine wp_region_held_drew (S := fun X => Kept wr X) (by kernel_rfl) (Kept.refl wr) (fun hHeld => ?_)
              refine wpAnyH_take (i := 0) (v := .agg #[.slice al nl cl, .slice an nn cn, .int .i64 st, .slice ap np cp]) rfl (by kernel_rfl) (by kernel_rfl) (by kernel_rfl) (fun _ _ _ h => h) (Or.inl ⟨by rfl, fun w' hSw => ?_⟩) (by with_reducible assumption) ?_
              · obtain ⟨s0, s1, s2, s3⟩ := SBox.facts (HBW.out.keep (gtrans HKYW.out hSw))
                clear hSw
                go_simp
              try simp only [Act.put, List.setIfInBounds_toArray, List.set_cons_zero, List.set_cons_succ]
              refine wpAnyH_take (i := 1) (v := .slice ar nr cr) rfl (by kernel_rfl) (by kernel_rfl) (by kernel_rfl) (fun _ _ _ h => h) (Or.inl ⟨by rfl, fun w' hSw => ?_⟩) (by with_reducible assumption) ?_
              · clear hSw
                go_simp
              try simp only [Act.put, List.setIfInBounds_toArray, List.set_cons_zero, List.set_cons_succ]
              refine wpAnyH_take (i := 2) (v := .slice (some ⟨g, 0, none⟩) (nl + 2) (nl + 2)) rfl (by kernel_rfl) (by kernel_rfl) (by kernel_rfl) (fun _ _ _ h => h) (Or.inl ⟨by rfl, fun w' hSw => ?_⟩) (by with_reducible assumption) ?_
              · clear hSw
                go_simp
              try simp only [Act.put, List.setIfInBounds_toArray, List.set_cons_zero, List.set_cons_succ]
              refine wpAnyH_take (i := 3) (v := .agg #[.slice al nl cl, .slice an nn cn, .int .i64 st, .slice ap np cp]) rfl (by kernel_rfl) (by kernel_rfl) (by kernel_rfl) (fun _ _ _ h => h) (Or.inl ⟨by rfl, fun w' hSw => ?_⟩) (by with_reducible assumption) ?_
              · obtain ⟨s0, s1, s2, s3⟩ := SBox.facts (HBW.out.keep (gtrans HKYW.out hSw))
                clear hSw
                go_simp
              try simp only [Act.put, List.setIfInBounds_toArray, List.set_cons_zero, List.set_cons_succ]
              refine wpAnyH_take (i := 5) (v := .agg #[.slice al nl cl, .slice an nn cn, .int .i64 st, .slice ap np cp]) rfl (by kernel_rfl) (by kernel_rfl) (by kernel_rfl) (fun _ _ _ h => h) (Or.inl ⟨by rfl, fun w' hSw => ?_⟩) (by with_reducible assumption) ?_
              · obtain ⟨s0, s1, s2, s3⟩ := SBox.facts (HBW.out.keep (gtrans HKYW.out hSw))
                clear hSw
                go_simp
              try simp only [Act.put, List.setIfInBounds_toArray, List.set_cons_zero, List.set_cons_succ]
              refine wpAnyH_ready (rs := [4]) (by kernel_rfl) (by simp) ?_
              refine AllReadyH.cons (i := 4) rfl (fun K hK => ?_) AllReadyH.nil
              go_simp
              go_wp2_with (go_at_call 39; refine (dFirst_is k lex ps al an ap nl cl nn cn np cp (.int .i64 st) _ hnl64 hn128 HFA.out.1.2.2 HLEN.out HPS.out (HP.out.keep (gtrans HKW.out (gtrans HKYW.out (drew_kept wr)))) HFA.out.2).mono ?_; rintro e w4 ⟨gf, cf, G, rfl, h1, h2, h3, h4⟩; have HCF := hide1 h1; have HFS := hide1 h2; have HFI := hide1 h3; have HKf := hide1 h4; clear h1 h2 h3 h4)
              have HK4 := hide1 (gtrans (drew_kept wr) HKf.out)
              refine hK.out _ _ HK4.out (fun hHeld2 => ?_)
              clear hK K hHeld
              have hHeld := hHeld2
              clear hHeld2
              try simp only [Act.put, List.setIfInBounds_toArray, List.set_cons_zero, List.set_cons_succ]
              refine wpAnyH_ready (rs := [6]) (by kernel_rfl) (by simp) ?_
              refine AllReadyH.cons (i := 6) rfl (fun K hK => ?_) AllReadyH.nil
              go_simp
              go_wp2_with (go_at_call 40; refine (dNullable_is ps (.slice al nl cl) (.int .i64 st) an ap nn cn np cp _ hn128 HPS.out (HP.out.keep (gtrans HKW.out (gtrans HKYW.out HK4.out))) HEN.out).mono ?_; rintro e w5 ⟨es, ge, rfl, h1, h2, h3, h4, h5⟩; have HEL := hide1 h1; have HEM := hide1 h2; have HET := hide1 h4; have HKn := hide1 h5; clear h1 h2 h3 h4 h5)
              have HK5 := hide1 (gtrans HK4.out HKn.out)
              refine hK.out _ _ HK5.out (fun hHeld2 => ?_)
              clear hK K hHeld
              have hHeld := hHeld2
              clear hHeld2
              try simp only [Act.put, List.setIfInBounds_toArray, List.set_cons_zero, List.set_cons_succ]
              refine wpAnyH_ready (rs := [7]) (by kernel_rfl) (by simp) ?_
              refine AllReadyH.cons (i := 7) rfl (fun K hK => ?_) AllReadyH.nil
              go_simp
              go_wp2_with (go_at_call 38; refine (dHeadsF_is k lex row al ar (some ⟨g, 0, none⟩) nl cl nr cr (nl + 2) (nl + 2) gf cf ge nn nn G es zs (.slice an nn cn) (.int .i64 st) (.slice ap np cp) w5 hnl64 hn128 HLEN.out HROW.out HFS.out.len HEL.out HZL.out (Nat.le_refl _) (Nat.le_refl _) HCF.out (Nat.le_refl _) (HR.out.keep (gtrans HKW.out (gtrans HKYW.out HK5.out))) HROS.out (HFS.out.keep HKn.out).fam HET.out (.inr ⟨g, rfl, HTZ.out.keep HK5.out⟩)).mono ?_; rintro e w6 ⟨hg, hs, rfl, h1, h2, h3, h4, h5⟩; have HHL := hide1 h2; have HHB := hide1 h3; have HHT := hide1 h4; have HK6 := hide1 (gtrans HK5.out h5); clear h1 h2 h3 h4 h5)
              refine hK.out _ _ HK6.out (fun hHeld2 => ?_)
              clear hK K hHeld
              have hHeld := hHeld2
              clear hHeld2
              try simp only [Act.put, List.setIfInBounds_toArray, List.set_cons_zero, List.set_cons_succ]
              refine wpAnyH_take (i := 8) (v := .slice (some ⟨hg, 0, none⟩) (nl + 2) (nl + 2)) rfl (by kernel_rfl) (by kernel_rfl) (by kernel_rfl) (fun _ _ _ h => h) (Or.inl ⟨by rfl, fun w' hSw => ?_⟩) (by with_reducible assumption) ?_
              · clear hSw
                go_simp
              try simp only [Act.put, List.setIfInBounds_toArray, List.set_cons_zero, List.set_cons_succ]
              refine wpAnyH_done (by kernel_rfl) ?_ _
              clear hHeld
              have HKE := hide1 (gtrans HKW.out (gtrans HKYW.out HK6.out))
              go_wp2_with (go_at_call 41; refine (dList_is hg hs (nl + 2) (nl + 2) w6 HHL.out (by omega) (Nat.le_refl _) HHT.out).mono ?_; rintro e w7 ⟨⟨v, rfl, hv⟩, hk7⟩; have HV := hide1 hv; have HK7 := hide1 (gtrans HKE.out hk7); clear hv hk7)
              go_ret3
              exact ⟨(0, 0), HQ0.out, HK7.out, .inr ⟨rfl, .inr (.inr ⟨HROK.out, HALL.out, v, bitsOf es, famF G, rfl, HEM.out, HFI.out, (by rw [← HBL.out, ← HHB.out]; exact intsO_low HV.out HKE.out.size)⟩)⟩⟩
  · have b0 : (xe != 0) = true := by simpa using hx0
    have HXE := hide1 hx0
    clear hx0
    go_wp2_with fail
    go_ret3
    exact ⟨(xe, xa), HQ.out, HKW.out, .inl ⟨HXE.out, rfl⟩⟩

end Ex
end Go.Proofs.YtooelfjceehmmaaDoor
namespace Go.Proofs.YtooelfjceehmmaaDoor
open Go.RowKit
namespace Ex
open Sh

def encSy (s : SymM) : List Value := [.int .i64 s.1, .int .i64 s.2]
theorem encSy_one (s : SymM) : ∀ u ∈ encSy s, u.oneCell' = true := fun u hu => by
  unfold encSy at hu
  simp only [List.mem_cons, List.not_mem_nil, or_false] at hu
  rcases hu with rfl | rfl <;> rfl
/-- Lists of symbols, lists of numbers, as kinds of lists. -/
def syE : ElK SymM := { T := 58, TT := 38, sz := 2, by_ := 16, z := .agg #[.int .i64 0, .int .i64 0], enc := encSy, pos := by decide, info := by kernel_rfl, zs := rfl, und := Tryd.underlying38, len := fun _ => rfl, one := encSy_one }
def encIn (y : Int) : List Value := [.int .i64 y]
theorem encIn_one (y : Int) : ∀ u ∈ encIn y, u.oneCell' = true := fun u hu => by
  unfold encIn at hu
  simp only [List.mem_cons, List.not_mem_nil, or_false] at hu
  subst hu
  rfl
def inE : ElK Int := { T := 3, TT := 41, sz := 1, by_ := 8, z := .int .i64 0, enc := encIn, pos := by decide, info := by kernel_rfl, zs := rfl, und := Tryd.underlying41, len := fun _ => rfl, one := encIn_one }
theorem grown_belowH {w0 w w' : World} {base : Nat} {row : Option Nat} (h : Below base w0 w) (hg : w.grownBy w' row) (hr : ∀ g, row = some g → base ≤ g) (hb : base ≤ w.heap.size) : Below base w0 w' :=
  h.trans ⟨hg.os, hg.tape, hg.output, hg.size, fun k hk => hg.block k (by omega) (fun e => by have := hr k e.symm; omega)⟩
section
variable {α : Type} {E : ElK α} {w w' : World}
theorem kept_loH {w0 : World} {v : Value} {l : List α} (h : Kept w0 w) (hl : LO E w w0.heap.size v l) (hg : w.grownBy w' v.ownBlock) : Kept w0 w' :=
  Kept.of (grown_belowH h.below hg (fun g hg => (hl.lt' g hg).1) h.size)
theorem flat_atH : ∀ (l : List α) (j : Nat) (u : Value), (flatE E l)[j]? = some u → ∃ x, l[j / E.sz]? = some x ∧ (E.enc x)[j % E.sz]? = some u
  | [], j, u, h => by simp [flatE] at h
  | x :: l, j, u, h => by
    have e : flatE E (x :: l) = E.enc x ++ flatE E l := by unfold flatE; simp
    rw [e] at h
    have hp := E.pos
    have hl := E.len x
    by_cases hj : j < E.sz
    · rw [List.getElem?_append_left (by rw [hl]; exact hj)] at h
      exact ⟨x, by rw [Nat.div_eq_of_lt hj]; rfl, by rw [Nat.mod_eq_of_lt hj]; exact h⟩
    · rw [List.getElem?_append_right (by rw [hl]; omega), hl] at h
      obtain ⟨y, h1, h2⟩ := flat_atH l (j - E.sz) u h
      have hd : j / E.sz = (j - E.sz) / E.sz + 1 := by rw [← Nat.add_div_right _ hp]; congr 1; omega
      have hm : j % E.sz = (j - E.sz) % E.sz := by rw [← Nat.add_mod_right (j - E.sz)]; congr 1; omega
      exact ⟨y, by rw [hd, List.getElem?_cons_succ]; exact h1, by rw [hm]; exact h2⟩
/-- A list to be read, as a source of an append. -/
theorem src_sl {a : Option Addr} {n c : Nat} {xs : List α} (h : SliceOf w E.sz (fun cs x => cs = E.enc x) (.slice a n c) xs) : Src E w a xs := by
  obtain ⟨a', cap, e, h2, h3, h4⟩ := h
  injection e with e1 e2 e3
  subst e1
  rcases h4 with h4 | ⟨g, o, rfl, _, h7⟩
  · exact .inl h4
  · refine .inr ⟨g, o, rfl, fun j u hj => ?_⟩
    obtain ⟨x, h5, h6⟩ := flat_atH xs j u hj
    obtain ⟨cs, g1, g2, g3⟩ := h7 _ x h5
    subst g3
    have := g2 _ u h6
    rw [Nat.add_assoc, Nat.mul_comm, Nat.div_add_mod] at this
    exact this
/-- The front of a list of the call's own, to be read. -/
theorem lo_sl {base g n c k : Nat} {l m : List α} (h : LO E w base (.slice (some ⟨g, 0, none⟩) n c) (l ++ m)) (hk : l.length = k) (h44 : k ≤ 17592186044416) : SliceOf w E.sz (fun cs x => cs = E.enc x) (.slice (some ⟨g, 0, none⟩) k c) l := by
  subst hk
  have hc : l.length ≤ c := by
    rcases h.2 with ⟨h0, _⟩ | ⟨g', cap', cur, he, _, _, hc, _, _, _⟩
    · cases h0
    · injection he with _ e2 e3
      rw [← e3] at hc
      rw [List.length_append] at hc
      omega
  refine ⟨some ⟨g, 0, none⟩, c, rfl, hc, h44, .inr ⟨g, 0, rfl, (h.lt' g rfl).2, fun i x hx => ⟨E.enc x, E.len x, fun j u hu => ?_, rfl⟩⟩⟩
  rw [Nat.zero_add]
  exact h.cell (by rw [List.getElem?_append_left (List.getElem?_eq_some_iff.1 hx).1]; exact hx) hu
theorem lo_cut {base n c : Nat} {a : Option Addr} {l : List α} (h : LO E w base (.slice a n c) l) : LO E w base (.slice a 0 c) [] := by
  rcases h.2 with ⟨h0, _⟩ | ⟨g, cap, cur, he, hb, hg, hc, hm, hs, _⟩
  · injection h0 with e1 e2 e3
    subst e1 e3
    exact LO.nil _ _
  · injection he with e1 e2 e3
    subst e1 e3
    exact ⟨by simp [flatE], .inr ⟨g, _, cur, rfl, hb, hg, Nat.zero_le _, hm, hs, by simp [flatE]⟩⟩
theorem lo_at {base n c : Nat} {a : Option Addr} {l : List α} (h : LO E w base (.slice a n c) l) : a = none ∨ ∃ g o, a = some ⟨g, o, none⟩ := by
  rcases h.2 with ⟨h0, _⟩ | ⟨g, cap, cur, he, _⟩
  · injection h0 with e1; exact .inl e1
  · injection he with e1; exact .inr ⟨g, 0, e1⟩
/-- x[:k]. -/
theorem cut_run (E : ElK α) {a : Option Addr} (n : Nat) {c k : Nat} (ha : a = none ∨ ∃ g o, a = some ⟨g, o, none⟩) (hk : k ≤ c) (w' : World) : (Instr.sliceAt E.TT (.slice a n c) none (some (.int .i64 (k : Int))) none).run Tryd.prog w' = .ok (.slice a k c) w' := by
  obtain ⟨i0, hi, hz0, hz1, hz2⟩ := info_parts E.info
  have hsz : (sizeOf E.T).run Tryd.prog w' = .ok E.sz w' := by
    rw [run_sizeOf w' hi]
    simp [Program.cellsOf, hi, hz1]
  have he : Tryd.prog.elem E.TT = E.T := by
    have hu := E.und
    unfold Program.elem
    rw [hu]
  have ht : Tryd.prog.underlying E.TT = some (.slice (Tryd.prog.elem E.TT)) := by rw [he]; exact E.und
  rw [run_sliceAt_slice (P := Tryd.prog) (h := ht), run_slice_h (P := Tryd.prog) (ht := ht) (h0 := by omega) (h2 := by omega), he, hsz]
  rcases ha with rfl | ⟨g, o, rfl⟩
  · simp [Result.andThen, sliced]
  · simp [Result.andThen, sliced, Addr.add_mid]
theorem ne_own {α β : Type} {E : ElK α} {F : ElK β} {w : World} {b1 b2 : Nat} {v1 v2 : Value} {l1 : List α} {l2 : List β} (h1 : LO E w b1 v1 l1) (h2 : LO F w b2 v2 l2) (hT : E.T ≠ F.T) {d : Nat} (h3 : v1.ownBlock = some d) : v2.ownBlock ≠ some d := by
  rcases h1.2 with ⟨rfl, _⟩ | ⟨g1, c1, cur1, rfl, _, hg1, _⟩
  · cases h3
  · rcases h2.2 with ⟨rfl, _⟩ | ⟨g2, c2, cur2, rfl, _, hg2, _⟩
    · intro h; cases h
    · intro h4
      injection h3 with h3
      injection h4 with h4
      have h3 : g1 = d := h3
      have h4 : g2 = d := h4
      subst h3
      subst h4
      rw [hg1] at hg2
      injection hg2 with hg2
      injection hg2 with _ hg2
      exact hT hg2
end
theorem lo_othH {α β : Type} {E : ElK α} {F : ElK β} {w w' : World} {b1 b2 : Nat} {v1 v2 : Value} {l1 : List α} {l2 : List β} (h1 : LO E w b1 v1 l1) (h2 : LO F w b2 v2 l2) (hT : E.T ≠ F.T) (hg : w.grownBy w' v2.ownBlock) : LO E w' b1 v1 l1 :=
  h1.same (fun d hd => hg.block d (h1.lt' d hd).2 (fun e => ne_own h1 h2 hT hd e.symm))

/-- An ask: a row and what may stand behind it. -/
abbrev AskM : Type := List SymM × List Int
def AskEl (w : World) (cs : List Value) (x : AskM) : Prop := ∃ vr vn, cs = [vr, vn] ∧ RightAt w vr x.1 ∧ IntsR w vn x.2 ∧ x.1.length * 16 ≤ 140737488351232 ∧ x.2.length * 8 ≤ 140737488351232
def AsksAt (w : World) (v : Value) (l : List AskM) : Prop := SliceOf w 2 (AskEl w) v l
theorem AsksAt.keep {w w' : World} {v : Value} {l : List AskM} (h : AsksAt w v l) (hk : Kept w w') : AsksAt w' v l := SliceOf.mono h hk (fun _ _ ⟨vr, vn, h1, h2, h3, h4⟩ => ⟨vr, vn, h1, h2.keep hk, h3.keep hk, h4⟩)

theorem termH_sym {k : Nat} {lex : List (LexM k)} {nn nl : Nat} {x : SymM} (hlex : lex.length = nl) (h : symErr lex nn x = 0) (h3 : x.1 ≠ 3) : TermOk lex nl ((termN nl x : Nat) : Int) := by
  rcases sym_ok hlex h with e | e | e
  · have e2 : termN nl x = x.2.toNat := by unfold termN; rw [if_neg (by omega)]
    rw [e2]
    refine ⟨by omega, by omega, fun ⟨_, ht⟩ => ?_⟩
    have ht : (lex[((x.2.toNat : Nat) : Int).toNat]?.map (·.2.1)).getD false = true := ht
    rw [Int.toNat_natCast] at ht
    unfold symErr at h
    rw [hlex, if_pos e, if_pos ht] at h
    exact absurd h (by decide)
  · have e2 : termN nl x = nl := by unfold termN; rw [if_pos e]
    rw [e2]
    exact ⟨by omega, by omega, fun ⟨h, _⟩ => by omega⟩
  · exact absurd e.1 h3
theorem termH_heads {k : Nat} {lex : List (LexM k)} {nn nl : Nat} {E : Nat → Prop} {F : Nat × Nat → Prop} {nx : Nat → Prop} (hlex : lex.length = nl) (hF : ∀ x, F x → TermOk lex nl (x.2 : Int)) (hn : ∀ t, nx t → TermOk lex nl (t : Int)) : ∀ {row : List SymM} {t : Nat}, (∀ x ∈ row, symErr lex nn x = 0) → HeadS nl E F nx row t → TermOk lex nl (t : Int)
  | [], _, _, h => hn _ h
  | _ :: _, _, _, .inl ⟨_, .inl h⟩ => hF _ h
  | _ :: _, _, hs, .inl ⟨_, .inr ⟨_, h⟩⟩ => termH_heads hlex hF hn (fun y hy => hs y (List.mem_cons_of_mem _ hy)) h
  | x :: _, _, hs, .inr ⟨h3, h⟩ => by
    rw [h]
    exact termH_sym hlex (hs x List.mem_cons_self) h3
theorem termH_first {k : Nat} {lex : List (LexM k)} {ps : List ProdM} {nn nl : Nat} (hlex : lex.length = nl) (hs : ∀ p ∈ ps, ∀ x ∈ p.2, symErr lex nn x = 0) {x : Nat × Nat} (h : Fi nl (Mk false ps) ps x) : TermOk lex nl (x.2 : Int) :=
  h (fun x => TermOk lex nl (x.2 : Int)) ⟨fun _ h => h.elim, fun _ _ _ ⟨p, hp, _, hh⟩ => termH_heads hlex (fun _ h => h) (fun _ h => h.elim) (hs p (List.mem_of_getElem? hp)) hh⟩
/-- What Heads answers: a fault or none, and the list. -/
def HdB {k : Nat} (lex : List (LexM k)) (ps : List ProdM) (nn nl : Nat) (row : List SymM) (next : List Int) (x : Int × Int) (l : List Int) : Prop :=
  ((rowQ lex nn row).1 ≠ 0 ∧ x = rowQ lex nn row ∧ l = []) ∨
  ((rowQ lex nn row).1 = 0 ∧ ∃ (i : Nat) (z : Int), next[i]? = some z ∧ ¬ TermOk lex nl z ∧ (∀ x ∈ next.take i, TermOk lex nl x) ∧ x = (74, (i : Int)) ∧ l = []) ∨
  ((rowQ lex nn row).1 = 0 ∧ (∀ z ∈ next, TermOk lex nl z) ∧ x = (0, 0) ∧ ∃ A : Nat, (∀ t, A.testBit t = true ↔ HeadS nl (Mk false ps) (Fi nl (Mk false ps) ps) (fun t => (bitsL next).testBit t = true) row t) ∧ l = bitsTo A (nl + 2) ∧ nl ≤ 64)
def HdA {k : Nat} (lex : List (LexM k)) (ps : List ProdM) (nn nl : Nat) (st : Int) (row : List SymM) (next : List Int) (x : Int × Int) (l : List Int) : Prop := ∃ y : Int × Int, CheckQ lex ps nn nl st y ∧ ((y.1 ≠ 0 ∧ x = y ∧ l = []) ∨ (y.1 = 0 ∧ HdB lex ps nn nl row next x l))
section
variable {k : Nat} {lex : List (LexM k)} {ps : List ProdM} {nn nl : Nat} {st : Int} {row : List SymM} {next : List Int} {x x' : Int × Int} {l l' : List Int}
theorem HdB.one (h : HdB lex ps nn nl row next x l) (h' : HdB lex ps nn nl row next x' l') : x = x' ∧ l = l' := by
  rcases h with ⟨a1, a2, a3⟩ | ⟨a1, i, z, a2, a3, a4, a5, a6⟩ | ⟨a1, a2, a3, A, a4, a5, _⟩
  · rcases h' with ⟨_, b2, b3⟩ | ⟨b1, _⟩ | ⟨b1, _⟩
    · exact ⟨a2.trans b2.symm, a3.trans b3.symm⟩
    · exact absurd b1 a1
    · exact absurd b1 a1
  · rcases h' with ⟨b1, _⟩ | ⟨_, i', z', b2, b3, b4, b5, b6⟩ | ⟨_, b2, _⟩
    · exact absurd a1 b1
    · have ei : i = i' := by
        rcases Nat.lt_trichotomy i i' with h | h | h
        · exact absurd (b4 z (List.mem_of_getElem? (i := i) (by rw [List.getElem?_take, if_pos h]; exact a2))) a3
        · exact h
        · exact absurd (a4 z' (List.mem_of_getElem? (i := i') (by rw [List.getElem?_take, if_pos h]; exact b2))) b3
      subst ei
      exact ⟨a5.trans b5.symm, a6.trans b6.symm⟩
    · exact absurd (b2 z (List.mem_of_getElem? a2)) a3
  · rcases h' with ⟨b1, _⟩ | ⟨_, i', z', b2, b3, _⟩ | ⟨_, _, b3, B, b4, b5, _⟩
    · exact absurd a1 b1
    · exact absurd (a2 z' (List.mem_of_getElem? b2)) b3
    · have e : A = B := Nat.eq_of_testBit_eq fun t => by
        have := (a4 t).trans (b4 t).symm
        rw [Bool.eq_iff_iff]
        exact this
      subst e
      exact ⟨a3.trans b3.symm, a5.trans b5.symm⟩
theorem HdA.one (h : HdA lex ps nn nl st row next x l) (h' : HdA lex ps nn nl st row next x' l') : x = x' ∧ l = l' := by
  obtain ⟨y, h1, h2⟩ := h
  obtain ⟨y', h1', h2'⟩ := h'
  have e := checkQ_one h1 h1'
  subst e
  rcases h2 with ⟨a1, a2, a3⟩ | ⟨a1, h2⟩
  · rcases h2' with ⟨_, b2, b3⟩ | ⟨b1, _⟩
    · exact ⟨a2.trans b2.symm, a3.trans b3.symm⟩
    · exact absurd b1 a1
  · rcases h2' with ⟨b1, _⟩ | ⟨_, h2'⟩
    · exact absurd a1 b1
    · exact h2.one h2'
theorem HdA.len (h : HdA lex ps nn nl st row next x l) : l.length ≤ 66 ∧ (x.1 = 0 → x.2 = 0) := by
  obtain ⟨y, _, h2⟩ := h
  rcases h2 with ⟨a1, rfl, rfl⟩ | ⟨_, h2⟩
  · exact ⟨Nat.zero_le _, fun h => absurd h a1⟩
  · rcases h2 with ⟨a1, rfl, rfl⟩ | ⟨_, i, z, _, _, _, rfl, rfl⟩ | ⟨_, _, rfl, A, _, rfl, h64⟩
    · exact ⟨Nat.zero_le _, fun h => absurd h a1⟩
    · exact ⟨Nat.zero_le _, fun h => absurd (show (74 : Int) = 0 from h) (by decide)⟩
    · exact ⟨Nat.le_trans (bitsTo_len _ _) (by omega), fun _ => rfl⟩
end
/-- The bits of the heads, as a set. -/
theorem bits_heads {nl E X : Nat} {F : Nat → Nat} {ps : List ProdM} {row : List SymM} (h1 : ∀ n, E.testBit n = true ↔ Mk false ps n) (h3 : ∀ x, famS F x ↔ Fi nl (Mk false ps) ps x) (t : Nat) : (headsM nl E F X row 0).testBit t = true ↔ HeadS nl (Mk false ps) (Fi nl (Mk false ps) ps) (fun t => X.testBit t = true) row t := by
  have e1 : (fun n => E.testBit n = true) = Mk false ps := funext fun n => propext (h1 n)
  have e2 : famS F = Fi nl (Mk false ps) ps := funext fun x => propext (h3 x)
  rw [heads_bit, e1, e2]
  exact ⟨fun h => h.elim (fun h => by simp at h) id, .inr⟩
/-- What the program's Heads answers, what the document's. -/
theorem prog_ans {k : Nat} {lex : List (LexM k)} {ps : List ProdM} {nn nl : Nat} {st : Int} {row : List SymM} {next : List Int} {w w' : World} {e : Ending} (hlex : lex.length = nl) (h : HeadsR lex ps nn nl st row next w e w') : ∃ (v : Value) (x : Int × Int) (l : List Int), e = .returned (.tuple #[v, .agg #[.int .i64 x.1, .int .i64 x.2, .string ⟨#[]⟩]]) ∧ HdA lex ps nn nl st row next x l ∧ IntsO w' w.heap.size v l ∧ Kept w w' := by
  obtain ⟨x, hx, hk, h⟩ := h
  rcases h with ⟨h0, rfl⟩ | ⟨h0, h⟩
  · exact ⟨_, x, [], rfl, ⟨x, hx, .inl ⟨h0, rfl, rfl⟩⟩, World.ownsRow_nil _ _ _ _, hk⟩
  · rcases h with ⟨h1, rfl⟩ | ⟨h1, i, z, h2, h3, h4, rfl⟩ | ⟨h1, h2, v, E, F, rfl, h3, h4, h5, h6⟩
    · exact ⟨_, _, [], rfl, ⟨x, hx, .inr ⟨h0, .inl ⟨h1, rfl, rfl⟩⟩⟩, World.ownsRow_nil _ _ _ _, hk⟩
    · exact ⟨_, _, [], rfl, ⟨x, hx, .inr ⟨h0, .inr (.inl ⟨h1, i, z, h2, h3, h4, rfl, rfl⟩)⟩⟩, World.ownsRow_nil _ _ _ _, hk⟩
    · have hq : CheckQ lex ps nn nl st (0, 0) := by rw [checkQ_zero2 hx h0] at hx; exact hx
      obtain ⟨⟨hnl, _, _⟩, hs⟩ := check_facts hlex hq
      have hb : bitsTo (headsM nl E F (bitsL next) row 0) 128 = bitsTo (headsM nl E F (bitsL next) row 0) (nl + 2) := by
        obtain ⟨m, hm⟩ : ∃ m, 128 = nl + 2 + m := ⟨128 - (nl + 2), by omega⟩
        rw [hm]
        refine bitsTo_none _ (nl + 2) m (fun i hi _ => ?_)
        cases hb : (headsM nl E F (bitsL next) row 0).testBit i with
        | false => rfl
        | true =>
          have h7 := (bits_heads h3 h5 i).1 hb
          have h8 := termH_heads hlex (fun x hx => termH_first hlex (fun p hp => (hs p hp).2) hx) (fun t ht => h2 _ ((bitsL_bit next (fun z hz => (h2 z hz).1) t).1 ht)) (row_oks h1).2 h7
          have := h8.2.1
          omega
      rw [hb] at h6
      exact ⟨v, (0, 0), _, rfl, ⟨x, hx, .inr ⟨h0, .inr (.inr ⟨h1, h2, rfl, _, bits_heads h3 h5, rfl, hnl⟩)⟩⟩, h6, hk⟩
theorem doc_ans {k : Nat} {lex : List (LexM k)} {ps : List ProdM} {nn nl : Nat} {st : Int} {row : List SymM} {next : List Int} {w w' : World} {e : Ending} (hlex : lex.length = nl) (h : HeadsD lex ps nn nl st row next w e w') : ∃ (v : Value) (x : Int × Int) (l : List Int), e = .returned (.tuple #[v, .int .i64 x.2, .int .i64 x.1]) ∧ HdA lex ps nn nl st row next x l ∧ IntsO w' w.heap.size v l ∧ Kept w w' := by
  obtain ⟨x, hx, hk, h⟩ := h
  rcases h with ⟨h0, rfl⟩ | ⟨h0, h⟩
  · exact ⟨_, x, [], rfl, ⟨x, hx, .inl ⟨h0, rfl, rfl⟩⟩, World.ownsRow_nil _ _ _ _, hk⟩
  · rcases h with ⟨h1, rfl⟩ | ⟨h1, i, z, h2, h3, h4, rfl⟩ | ⟨h1, h2, v, E, F, rfl, h3, h5, h6⟩
    · exact ⟨_, _, [], rfl, ⟨x, hx, .inr ⟨h0, .inl ⟨h1, rfl, rfl⟩⟩⟩, World.ownsRow_nil _ _ _ _, hk⟩
    · exact ⟨_, (74, (i : Int)), [], rfl, ⟨x, hx, .inr ⟨h0, .inr (.inl ⟨h1, i, z, h2, h3, h4, rfl, rfl⟩)⟩⟩, World.ownsRow_nil _ _ _ _, hk⟩
    · have hq : CheckQ lex ps nn nl st (0, 0) := by rw [checkQ_zero2 hx h0] at hx; exact hx
      obtain ⟨⟨hnl, _, _⟩, hs⟩ := check_facts hlex hq
      exact ⟨v, (0, 0), _, rfl, ⟨x, hx, .inr ⟨h0, .inr (.inr ⟨h1, h2, rfl, _, bits_heads h3 h5, rfl, hnl⟩)⟩⟩, h6, hk⟩

end Ex
end Go.Proofs.YtooelfjceehmmaaDoor
