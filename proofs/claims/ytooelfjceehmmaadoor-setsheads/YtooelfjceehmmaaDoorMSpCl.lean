import Derived.Test.YtooelfjceehmmaaDoorMSpCk
namespace Go.Proofs.YtooelfjceehmmaaDoor
open Go.RowKit
attribute [local go_sem] Oper.semAt_some
namespace Ex

/-- The checks tell one fault alone. -/
theorem then_one {Q Q' R R' : Int × Int → Prop} (hQ : ∀ a b, Q a → Q' b → a = b) (hR : ∀ {a}, Q a → a.1 = 0 → ∀ x y, R x → R' y → x = y) {x y : Int × Int} (hx : ThenQ Q R x) (hy : ThenQ Q' R' y) : x = y := by
  obtain ⟨a, ha, h1⟩ := hx
  obtain ⟨c, hc, h2⟩ := hy
  have e := hQ a c ha hc
  subst e
  rcases h1 with ⟨n1, rfl⟩ | ⟨z1, h1⟩
  · rcases h2 with ⟨_, rfl⟩ | ⟨z2, _⟩
    · rfl
    · exact absurd z2 n1
  · rcases h2 with ⟨n2, _⟩ | ⟨_, h2⟩
    · exact absurd z1 n2
    · exact hR ha z1 x y h1 h2
theorem reached_one {k : Nat} {lex : List (LexM k)} {ps : List ProdM} {nn nl st : Nat} {x y : Int × Int} (hx : ReachedQ lex ps nn nl st x) (hy : ReachedQ lex ps nn nl st y) : x = y := by
  obtain ⟨a, ha, h1⟩ := hx
  obtain ⟨c, hc, h2⟩ := hy
  have e := FirstMiss.one (fun _ _ => Iff.rfl) ha hc
  subst e
  rcases h1 with ⟨n1, rfl⟩ | ⟨z1, h1⟩
  · rcases h2 with ⟨_, rfl⟩ | ⟨z2, _⟩
    · rfl
    · exact absurd z2 n1
  · rcases h2 with ⟨n2, _⟩ | ⟨_, h2⟩
    · exact absurd z1 n2
    · exact FirstMiss.one (fun _ _ => Iff.rfl) h1 h2
theorem chkQ_one {k : Nat} {lex : List (LexM k)} {ps : List ProdM} {nn nl : Nat} {st : Int} : ∀ (j : Nat) (a b : Int × Int), chkQ lex ps nn nl st j a → chkQ lex ps nn nl st j b → a = b
  | 0, _, _, ha, hb => Eq.trans (show _ = _ from ha) (show _ = _ from hb).symm
  | 1, _, _, ha, hb => Eq.trans (show _ = _ from ha) (show _ = _ from hb).symm
  | 2, _, _, ha, hb => reached_one ha hb
  | 3, _, _, ha, hb => FirstMiss.one (fun _ _ => Iff.rfl) ha hb
  | _ + 4, _, _, ha, hb => FirstMiss.one (fun _ _ => Iff.rfl) ha hb
theorem restQ_one {k : Nat} {lex : List (LexM k)} {ps : List ProdM} {nn nl : Nat} {st : Int} : ∀ (m j : Nat) (x y : Int × Int), restQ lex ps nn nl st m j x → restQ lex ps nn nl st m j y → x = y
  | 0, _, _, _, hx, hy => Eq.trans (show _ = _ from hx) (show _ = _ from hy).symm
  | m + 1, j, _, _, hx, hy => then_one (chkQ_one j) (fun _ _ x y h1 h2 => restQ_one m (j + 1) x y h1 h2) hx hy
theorem checkQ_one {k : Nat} {lex : List (LexM k)} {ps : List ProdM} {nn nl : Nat} {st : Int} {x y : Int × Int} (hx : CheckQ lex ps nn nl st x) (hy : CheckQ lex ps nn nl st y) : x = y := restQ_one 5 0 x y hx hy

end Ex
end Go.Proofs.YtooelfjceehmmaaDoor
namespace Go.Proofs.YtooelfjceehmmaaDoor
open Go.RowKit
attribute [local go_sem] Oper.semAt_some
namespace Ex

def DlI (ps : List ProdM) (W : World) (vi : Value) (wr : World) : Prop := ∃ j : Nat, vi = .int .i64 (j : Int) ∧ j ≤ ps.length ∧ Hid ((ps.take j).any (fun p => decide (16 < p.2.length)) = false) ∧ Hid (wr = W)
set_option linter.unusedSimpArgs false in
set_option maxRecDepth 100000 in
set_option maxHeartbeats 4000000 in
/-- The document's bounds. -/
theorem dLong_is (ps : List ProdM) (al an ap : Option Addr) (nl cl nn cn np cp : Nat) (x2 : Value) (w : World) (hnl : nl ≤ 17592186044416) (hnn : nn ≤ 17592186044416) (hps : ps.length = np) (hp : ProdsAt w (.slice ap np cp) ps) :
    Calls Tryd.prog 66 #[.agg #[.slice al nl cl, .slice an nn cn, x2, .slice ap np cp]] w fun e w' => e = .returned (.bool (longB nl nn ps)) ∧ Kept w w' := by
  have HK : Hid (Kept w (w.alloc (.cells #[.slice al nl cl, .slice an nn cn, x2, .slice ap np cp] 26))) := (Kept.refl w).alloc _ _
  have HB := hide1 (SBox.new w (.slice al nl cl) (.slice an nn cn) x2 (.slice ap np cp))
  have HP := hide1 (hp.keep HK.out)
  have HPS := hide1 hps
  obtain ⟨_, _, e1, hcl, hn⟩ := hp.len
  simp only [Value.slice.injEq] at e1
  obtain ⟨rfl, en, rfl⟩ := e1
  clear en
  rw [hps] at hcl hn
  have gn : (nn : Int) ≤ 17592186044416 := by omega
  have gl : (nl : Int) ≤ 17592186044416 := by omega
  have gp : (np : Int) ≤ 17592186044416 := by omega
  clear hp hps
  go_enter Tryd.func66, Tryd.ntmps66
  go_upto_region 1 with fail
  obtain ⟨W, hW⟩ : ∃ W, w.alloc (.cells #[.slice al nl cl, .slice an nn cn, x2, .slice ap np cp] 26) = W := ⟨_, rfl⟩
  rw [hW] at HB HK HP ⊢
  clear hW
  obtain ⟨b, hb⟩ : ∃ b, w.heap.size = b := ⟨_, rfl⟩
  rw [hb] at HB ⊢
  clear hb
  obtain ⟨s0, s1, s2, s3⟩ := HB.out.facts
  by_cases h1 : (64 : Int) < (nl : Int)
  · have HLB : Hid (longB nl nn ps = true) := by unfold longB; show _ = _; simp; omega
    go_wp2_with fail
    go_ret
    exact ⟨by rw [HLB.out]; rfl, HK.out⟩
  · by_cases h2 : (128 : Int) < (nn : Int)
    · have HLB : Hid (longB nl nn ps = true) := by unfold longB; show _ = _; simp; omega
      go_wp2_with fail
      go_ret
      exact ⟨by rw [HLB.out]; rfl, HK.out⟩
    · by_cases h3 : (512 : Int) < (np : Int)
      · have HLB : Hid (longB nl nn ps = true) := by have := HPS.out; unfold longB; show _ = _; simp; omega
        go_wp2_with fail
        go_ret
        exact ⟨by rw [HLB.out]; rfl, HK.out⟩
      · have HLB : Hid (longB nl nn ps = ps.any (fun p => decide (16 < p.2.length))) := by
          have := HPS.out
          unfold longB
          show _ = _
          rw [show decide (64 < nl) = false by simp; omega, show decide (128 < nn) = false by simp; omega, show decide (512 < ps.length) = false by simp; omega]
          rfl
        go_wp2_with fail
        go_loopw [3] (DlI ps W) (fun i _ => np - (intOf i).toNat)
        case atStart => exact ⟨0, rfl, Nat.zero_le _, rfl, rfl⟩
        case round =>
          obtain ⟨j, rfl, hj, HA, HW⟩ := hrel
          have hW := HW.out.symm
          subst hW
          rw [HPS.out] at hj
          by_cases hlt : (j : Int) < (np : Int)
          · obtain ⟨p, hp⟩ : ∃ p, ps[j]? = some p := ⟨_, List.getElem?_eq_getElem (by have := HPS.out; omega)⟩
            obtain ⟨cb, o2, cs, ea, hcb, hlen, hcell, v', hcs, hrt⟩ := SliceOf.el HP.out hp
            subst ea hcs
            have k1 := hcell 1 _ rfl
            have gjc : (j : Int) < (cp : Int) := by omega
            obtain ⟨ar, cr, rfl, hcr, hnr⟩ := hrt.len
            have HA2 : Hid (∀ x, decide (16 < p.2.length) = x → (ps.take (j + 1)).any (fun p => decide (16 < p.2.length)) = x) := by
              intro x hx
              rw [List.take_add_one, hp, List.any_append, HA.out]
              simpa using hx
            obtain ⟨nr, hnr2⟩ : ∃ nr, p.2.length = nr := ⟨_, rfl⟩
            rw [hnr2] at HA2 k1 hcr hnr
            have gr : (nr : Int) ≤ 17592186044416 := by omega
            clear hp hcell hrt hnr2
            by_cases h16 : (16 : Int) < (nr : Int)
            · have HAT := hide1 (HA2.out true (by simp; omega))
              go_wp2_with fail
              go_ret
              refine ⟨?_, HK.out⟩
              have e : longB nl nn ps = true := by
                rw [HLB.out, ← List.take_append_drop (j + 1) ps, List.any_append, HAT.out]
                rfl
              rw [e]
              rfl
            · have HAT := hide1 (HA2.out false (by simp; omega))
              go_wp2_with fail
              go_roundw
              case rel => exact ⟨j + 1, by go_num, by rw [HPS.out]; omega, HAT, rfl⟩
              case measure => simp [intOf]; omega
          · have HAT : Hid (longB nl nn ps = false) := by
              show _ = _
              rw [HLB.out, ← HA.out, List.take_of_length_le (by have := HPS.out; omega)]
            go_wp2_with fail
            go_ret
            exact ⟨by rw [HAT.out]; rfl, HK.out⟩
set_option linter.unusedSimpArgs false in
set_option maxRecDepth 100000 in
set_option maxHeartbeats 4000000 in
/-- The document's error of a symbol: ours. -/
theorem dSymbol_is (k : Nat) (a b : Option Addr) (n c n2 c2 : Nat) (lex : List (LexM k)) (hlex : lex.length = n) (hn2 : n2 ≤ 17592186044416) (vp : Value) (st kd nn : Int) (w : World) (hl : LexAt w k (.slice a n c) lex) :
    Calls Tryd.prog 35 #[.agg #[.slice a n c, .slice b n2 c2, .int .i64 st, vp], .agg #[.int .i64 kd, .int .i64 nn]] w fun e w' => e = .returned (.int .i64 (symErr lex n2 (kd, nn))) ∧ Kept w w' := by
  have HK1 : Hid (Kept w (w.alloc (.cells #[.slice a n c, .slice b n2 c2, .int .i64 st, vp] 26))) := (Kept.refl w).alloc _ _
  have HB1 := hide1 (SBox.new w (.slice a n c) (.slice b n2 c2) (.int .i64 st) vp)
  have HK2 : Hid (Kept (w.alloc (.cells #[.slice a n c, .slice b n2 c2, .int .i64 st, vp] 26)) ((w.alloc (.cells #[.slice a n c, .slice b n2 c2, .int .i64 st, vp] 26)).alloc (.cells #[.int .i64 kd, .int .i64 nn] 58))) := (Kept.refl _).alloc _ _
  have HX := hide1 (XBox.new (w.alloc (.cells #[.slice a n c, .slice b n2 c2, .int .i64 st, vp] 26)) kd nn)
  rw [World.size_alloc] at HX
  obtain ⟨_, _, e1, hcl, hn⟩ := hl.len
  simp only [Value.slice.injEq] at e1
  obtain ⟨rfl, en, rfl⟩ := e1
  clear en
  rw [hlex] at hcl hn
  have gn : (n : Int) ≤ 17592186044416 := by omega
  have gn2 : (n2 : Int) ≤ 17592186044416 := by omega
  have HL := hide1 hl
  have HLEN := hide1 hlex
  clear hl hlex
  go_enter Tryd.func35, Tryd.ntmps35
  go_upto_region 1 with fail
  obtain ⟨W1, hW1⟩ : ∃ W1, w.alloc (.cells #[.slice a n c, .slice b n2 c2, .int .i64 st, vp] 26) = W1 := ⟨_, rfl⟩
  rw [hW1] at HK1 HB1 HK2 HX ⊢
  obtain ⟨W2, hW2⟩ : ∃ W2, W1.alloc (.cells #[.int .i64 kd, .int .i64 nn] 58) = W2 := ⟨_, rfl⟩
  rw [hW2] at HK2 HX ⊢
  clear hW1 hW2
  obtain ⟨g, hg⟩ : ∃ g, w.heap.size = g := ⟨_, rfl⟩
  rw [hg] at HB1 HX ⊢
  clear hg
  obtain ⟨s0, s1, s2, s3⟩ := (HB1.out.keep HK2.out).facts
  obtain ⟨t0, t1⟩ := HX.out.cells
  have HKW := hide1 (gtrans HK1.out HK2.out)
  by_cases h1 : kd = 1
  · subst h1
    by_cases h0 : nn < 0
    · have HE : Hid (symErr lex n2 (1, nn) = 70) := by
        show _ = _
        unfold symErr
        rw [if_neg (by simp only; omega), if_neg (by simp only; omega)]
      go_wp2_with fail
      go_ret
      exact ⟨by rw [HE.out]; rfl, HKW.out⟩
    · by_cases hg : (n : Int) ≤ nn
      · have HE : Hid (symErr lex n2 (1, nn) = 70) := by
          have := HLEN.out
          show _ = _
          unfold symErr
          rw [if_neg (by simp only; omega), if_neg (by simp only; omega)]
        go_wp2_with fail
        go_ret
        exact ⟨by rw [HE.out]; rfl, HKW.out⟩
      · obtain ⟨i, rfl⟩ : ∃ i : Nat, nn = (i : Int) := ⟨nn.toNat, by omega⟩
        obtain ⟨x, hx⟩ : ∃ x, lex[i]? = some x := ⟨_, List.getElem?_eq_getElem (by have := HLEN.out; omega)⟩
        obtain ⟨cb, o2, cs, ea, hcb, hlen, hcell, v', hcs, _⟩ := SliceOf.el (HL.out.keep HKW.out) hx
        subst ea hcs
        have k1 := hcell 1 _ rfl
        have gic : (i : Int) < (c : Int) := by omega
        have HE : Hid (symErr lex n2 (1, (i : Int)) = if x.2.1 = true then 71 else 0) := by
          have := HLEN.out
          show _ = _
          unfold symErr
          rw [if_pos ⟨rfl, (by show (0 : Int) ≤ (i : Int); omega), (by show (i : Int) < (lex.length : Int); omega)⟩]
          simp only [Int.toNat_natCast, hx, Option.map_some, Option.getD_some]
        obtain ⟨nm, tv, pt⟩ := x
        dsimp only at k1 HE
        clear hx hcell
        cases tv with
        | true =>
          go_wp2_with fail
          go_ret
          exact ⟨by rw [HE.out]; rfl, HKW.out⟩
        | false =>
          go_wp2_with fail
          go_ret
          exact ⟨by rw [HE.out]; rfl, HKW.out⟩
  · have b1 : (kd == 1) = false := by simpa using h1
    by_cases h2 : kd = 2
    · subst h2
      by_cases h0 : nn = 0
      · subst h0
        have HE : Hid (symErr lex n2 (2, 0) = 0) := by
          show _ = _
          unfold symErr
          rw [if_neg (by simp only; omega), if_pos (by simp)]
        go_wp2_with fail
        go_ret
        exact ⟨by rw [HE.out]; rfl, HKW.out⟩
      · have b0 : (nn != 0) = true := by simpa using h0
        have HE : Hid (symErr lex n2 (2, nn) = 70) := by
          show _ = _
          unfold symErr
          rw [if_neg (by simp only; omega), if_neg (by simp only; omega)]
        clear h0
        go_wp2_with fail
        go_ret
        exact ⟨by rw [HE.out]; rfl, HKW.out⟩
    · have b2 : (kd == 2) = false := by simpa using h2
      by_cases h3 : kd = 3
      · subst h3
        by_cases h0 : nn < 0
        · have HE : Hid (symErr lex n2 (3, nn) = 70) := by
            show _ = _
            unfold symErr
            rw [if_neg (by simp only; omega), if_neg (by simp only; omega)]
          go_wp2_with fail
          go_ret
          exact ⟨by rw [HE.out]; rfl, HKW.out⟩
        · by_cases hg : (n2 : Int) ≤ nn
          · have HE : Hid (symErr lex n2 (3, nn) = 70) := by
              show _ = _
              unfold symErr
              rw [if_neg (by simp only; omega), if_neg (by simp only; omega)]
            go_wp2_with fail
            go_ret
            exact ⟨by rw [HE.out]; rfl, HKW.out⟩
          · have HE : Hid (symErr lex n2 (3, nn) = 0) := by
              show _ = _
              unfold symErr
              rw [if_neg (by simp only; omega), if_pos (.inr ⟨rfl, (by show (0 : Int) ≤ nn; omega), (by show nn < (n2 : Int); omega)⟩)]
            go_wp2_with fail
            go_ret
            exact ⟨by rw [HE.out]; rfl, HKW.out⟩
      · have b3 : (kd == 3) = false := by simpa using h3
        have HE : Hid (symErr lex n2 (kd, nn) = 70) := by
          show _ = _
          unfold symErr
          rw [if_neg (by simp only; omega), if_neg (by simp only; omega)]
        clear h1 h2 h3
        go_wp2_with fail
        go_ret
        exact ⟨by rw [HE.out]; rfl, HKW.out⟩

end Ex
end Go.Proofs.YtooelfjceehmmaaDoor
