import Derived.Test.YtlgojnodhbmlkaaGreatDoorMExMaB
import Derived.Test.YtlgojnodhbmlkaaGreatDoorMExMa1
namespace Go.Proofs.YtlgojnodhbmlkaaGreatDoor
open Go.RowKit
attribute [local go_sem] Oper.semAt_some
namespace Ex

/-- The loop over the parts of a row. -/
def SqL (B0 : Nat) (lo : Nat → Nat → Option Int) (nb : Nat) (bs : List Int) (ND : List NodeT) (Ls : Nat → List Int → Prop) (R : Nat → Nat) (w : World) (at' : Nat) (ks : List Nat) (vo vk : Value) (wr : World) : Prop :=
  ∃ (k : Nat) (R3 : Nat → Nat) (l : List Nat), vk = .int .i64 (k : Int) ∧ k ≤ ks.length ∧ Hid (NetQ B0 R3 lo wr nb bs ND Ls) ∧ Hid (IntR (fun d => R3 d = 7) wr vo l) ∧ Hid (Pl (SeqS bs ((ks.take k).map Ls) (fun x => x = at')) l) ∧ Hid (∀ k' kk, k' < k → ks[k']? = some kk → ∀ x, SeqS bs ((ks.take k').map Ls) (fun y => y = at') x → ¬ LiveS (Ls kk) bs x) ∧ Hid (RK R w wr) ∧ Hid (RX R R3 w)
/-- The loop over alternatives. -/
def AlL (B0 : Nat) (lo : Nat → Nat → Option Int) (nb : Nat) (bs : List Int) (ND : List NodeT) (Ls : Nat → List Int → Prop) (R : Nat → Nat) (w : World) (at' : Nat) (ks : List Nat) (vk : Value) (wr : World) : Prop :=
  ∃ (k : Nat) (R3 : Nat → Nat), vk = .int .i64 (k : Int) ∧ k ≤ ks.length ∧ Hid (NetQ B0 R3 lo wr nb bs ND Ls) ∧ Hid (∀ kk ∈ ks.take k, ¬ LiveS (Ls kk) bs at') ∧ Hid (RK R w wr) ∧ Hid (RX R R3 w)
/-- The loop of a repetition. -/
def RpL (B0 : Nat) (lo : Nat → Nat → Option Int) (nb : Nat) (bs : List Int) (ND : List NodeT) (Ls : Nat → List Int → Prop) (R : Nat → Nat) (w : World) (at' gm gx kk : Nat) (mx : Int) (X : World → Prop) (vf vk : Value) (wr : World) : Prop :=
  ∃ (j : Nat) (R5 : Nat → Nat) (ms : List Bool) (F : Nat → Prop) (l : List Nat), vk = .int .i64 (j : Int) ∧ Hid (mx = -1 ∨ (j : Int) ≤ mx) ∧ Hid (j + cntF ms ≤ (bs.length + 1) + (if l = [] then 1 else 0)) ∧ Hid (NetQ B0 R5 lo wr nb bs ND Ls) ∧ Hid (BoolsAt wr gm ms) ∧ Hid (ms.length = bs.length + 1) ∧ Hid (WaveL (Ls kk) bs at' j (fun k => ms[k]? = some true) F) ∧ Hid (IntR (fun d => d ≠ gm ∧ (R5 d = 0 ∨ R5 d = 7)) wr vf l) ∧ Hid (Pl F l) ∧ Hid (RK R w wr) ∧ Hid (RX R R5 w) ∧ Hid (R5 gm = 0) ∧ Hid (X wr) ∧ Hid (R5 gx = 0 ∧ gx < wr.heap.size)
set_option linter.unusedSimpArgs false in
set_option maxRecDepth 100000 in
set_option maxHeartbeats 16000000 in
theorem withinD_is (B0 : Nat) (lo : Nat → Nat → Option Int) (nb : Nat) (bs : List Int) (ND : List NodeT) (Ls : Nat → List Int → Prop) (hsys : Sys ND Ls) (hbs : ∀ x ∈ bs, 0 ≤ x ∧ x ≤ 255) (i : Nat) (k0 fr t0 mn mx : Int) (ks : List Nat) (hi : ND[i]? = some (k0, fr, t0, mn, mx, ks)) (hE : ∀ k ∈ ks, EndsC B0 lo nb bs ND Ls k) (hV : ∀ k ∈ ks, LiveC B0 lo nb bs ND Ls k) (at' : Nat) (hat : at' < bs.length) : WithinC B0 lo nb bs ND Ls i at' := by
  intro R w hq
  have HE := hide1 hE
  have HV := hide1 hV
  have HBS := hide1 hbs
  have HQ := hide1 hq
  have HI := hide1 hi
  have HAL := hide1 hat
  have HAT : Hid (at' ≤ bs.length) := Nat.le_of_lt hat
  have HOK := hide1 (hsys.2 i _ hi)
  have HSM : Hid (∀ k ∈ ks, ∃ u, Ls k u) := fun k hk => by
    have h1 := ((hsys.2 i _ hi).1 k hk).2
    exact (hsys.2 k _ (List.getElem?_eq_getElem h1)).2.2.1
  have hin : i < ND.length := (List.getElem?_eq_some_iff.1 hi).1
  obtain ⟨a0, capB, hB, lB, lN, _⟩ := hq.bytes
  obtain ⟨be, ce, bk, ck, ak, cpk, ⟨f1, f2, f3, f4⟩, ⟨e0, e1, e2, e3, e4, xa, xn, xc, e5⟩, f6, f7, f8⟩ := hq.node hi
  obtain ⟨n, hn⟩ : ∃ n, bs.length = n := ⟨_, rfl⟩
  obtain ⟨N, hN⟩ : ∃ N, ND.length = N := ⟨_, rfl⟩
  have HN := hide1 hn
  have HNN := hide1 hN
  rw [hn] at lN hat
  rw [hN] at f1 f2 hin
  have gi : (i : Int) < (N : Int) := by omega
  have ga : (at' : Int) < (n : Int) + 1 := by omega
  have e0 : w.cell? ⟨be, i * 6, none⟩ = some (.int .i64 k0) := e0
  have e1 : w.cell? ⟨be, i * 6 + 1, none⟩ = some (.int .i64 fr) := e1
  have e2 : w.cell? ⟨be, i * 6 + 2, none⟩ = some (.int .i64 t0) := e2
  have e3 : w.cell? ⟨be, i * 6 + 3, none⟩ = some (.int .i64 mn) := e3
  have e4 : w.cell? ⟨be, i * 6 + 4, none⟩ = some (.int .i64 mx) := e4
  clear hE hV hq hi hsys hn hN hbs f3 f4 f6 f7 f8 hB lB
  go_enter Tryz.func34, Tryz.ntmps34
  have HBX := hide1 (BoxAt.new w (.int .i64 k0) (.int .i64 fr) (.int .i64 t0) (.int .i64 mn) (.int .i64 mx) (.slice xa xn xc))
  have HK2 : Hid (Kept w (w.alloc (.cells #[.int .i64 k0, .int .i64 fr, .int .i64 t0, .int .i64 mn, .int .i64 mx, .slice xa xn xc] 24))) := (Kept.refl w).alloc _ _
  go_upto_region 2 with fail
  obtain ⟨w2, hw2⟩ : ∃ w2, w.alloc (.cells #[.int .i64 k0, .int .i64 fr, .int .i64 t0, .int .i64 mn, .int .i64 mx, .slice xa xn xc] 24) = w2 := ⟨_, rfl⟩
  rw [hw2] at HBX HK2 ⊢
  have HQ2 := hide1 (HQ.out.kept HK2.out)
  have HGX : Hid (w.heap.size ≤ w.heap.size ∧ R w.heap.size = 0) := ⟨Nat.le_refl _, HQ.out.zero (Nat.le_refl _)⟩
  obtain ⟨gx, hgx⟩ : ∃ gx, w.heap.size = gx := ⟨_, rfl⟩
  rw [hgx] at HBX ⊢
  have HGX : Hid (w.heap.size ≤ gx ∧ R gx = 0) := by rw [← hgx]; exact HGX.out
  clear hw2 hgx e0 e1 e2 e3 e4 e5 f1 f2
  have HLT := hide1 (HQ2.out.lit at')
  go_upto_region 3 with fail
  obtain ⟨w3, hw3⟩ : ∃ w3, w2.alloc (.cells #[.int .i64 (at' : Int)] 3) = w3 := ⟨_, rfl⟩
  rw [hw3] at HLT ⊢
  obtain ⟨gz, hgz⟩ : ∃ gz, w2.heap.size = gz := ⟨_, rfl⟩
  rw [hgz] at HLT ⊢
  clear hw3 hgz
  obtain ⟨R3, q1, q2, q3, q4⟩ := HLT.out
  have HQ3 := hide1 q1
  have HL3 := hide1 q2
  have hgx2 : gx < w2.heap.size := HBX.out.lt
  have HX3 : Hid (RX R R3 w) := (RX.refl R w).trans HK2.out.size q3
  have HRK3 : Hid (RK R w w3) := RK.of (gtrans HK2.out q4)
  have HBX3 : Hid (BoxAt w3 gx (.int .i64 k0) (.int .i64 fr) (.int .i64 t0) (.int .i64 mn) (.int .i64 mx) (.slice xa xn xc)) := HBX.out.keep q4
  have HGX3 : Hid (R3 gx = 0 ∧ gx < w3.heap.size) := ⟨(q3 gx hgx2).trans HGX.out.2, Nat.lt_of_lt_of_le hgx2 q4.size⟩
  clear q1 q2 q3 q4 hgx2 HLT HBX HK2 HQ2
  obtain ⟨⟨x0, x1, x2, x3, x4, x5⟩, _⟩ := HBX3.out.facts
  obtain ⟨hks, hkl, hsome, hkind⟩ := HOK.out
  have HKS := hide1 hks
  have HKL : Hid (ks.length ≤ 4096) := hkl
  clear hks hkl hsome
  rcases hkind with ⟨e, hf0, hf1, hL⟩ | ⟨e, hL⟩ | ⟨e, hL⟩ | ⟨e, hm0, hm1, hm2, kk, ek, hL⟩
  · subst e
    have HL := hide1 hL
    clear hL
    obtain ⟨rb, HRB⟩ : ∃ rb : Bool, Hid (rb = true ↔ at' + 1 = bs.length ∧ ∃ x, bs[at']? = some x ∧ fr ≤ x ∧ x ≤ t0) := by
      by_cases h : at' + 1 = bs.length ∧ ∃ x, bs[at']? = some x ∧ fr ≤ x ∧ x ≤ t0
      · exact ⟨true, ⟨fun _ => h, fun _ => rfl⟩⟩
      · exact ⟨false, ⟨fun e => absurd e (by simp), fun e => absurd e h⟩⟩
    obtain ⟨a0, capB, hB, lB, lN, hby⟩ := HQ3.out.bytes
    rw [HN.out] at hB lB lN hby
    have HBY := hide1 hby
    have HFIN : Hid (∀ w4, Kept w3 w4 → LG B0 lo nb bs ND Ls R w (LiveS (Ls i) bs at') (.returned (.bool rb)) w4) := fun w4 hk4 => ⟨R3, rb, rfl, HRB.out.trans (range_live HAL.out HL.out).symm, HQ3.out.kept hk4, HRK3.out.trans HX3.out (RK.of hk4), HX3⟩
    have hwr : IntKind.i64.wrap ((n : Int) - 1) = (n : Int) - 1 := by rw [IntKind.wrap_i64]; omega
    clear hby
    go_upto_region 5 with fail
    obtain ⟨x, hx⟩ : ∃ x, bs[at']? = some x := ⟨bs[at']'(by have := HN.out; omega), List.getElem?_eq_getElem _⟩
    have hx2 := HBS.out x (List.mem_of_getElem? hx)
    have HX0 := hide1 hx
    obtain ⟨cB, oB, ea, hcx⟩ : ∃ cB oB, a0 = some ⟨cB, oB, none⟩ ∧ w3.cell? ⟨cB, oB + at', none⟩ = some (.int .u8 x) := by
      obtain ⟨a', cap', e, _, _, h3⟩ := HBY.out
      simp only [Value.slice.injEq] at e
      rcases h3 with h3 | ⟨c, o, h4, _, h5⟩
      · rw [h3] at hx; simp at hx
      · exact ⟨c, o, e.1.trans h4, h5 at' x hx⟩
    subst ea
    have hcv : IntKind.i64.wrap x = x := by rw [IntKind.wrap_i64]; omega
    have gac : (at' : Int) < (capB : Int) := by omega
    have gan : (at' : Int) < (n : Int) := by omega
    clear hx
    by_cases h0 : (at' : Int) = (n : Int) - 1
    · have b1 : ((at' : Int) == (n : Int) - 1) = true := by simpa using h0
      have HH0 : Hid (at' + 1 = bs.length) := by show _ = _; rw [HN.out]; omega
      clear h0
      by_cases h1 : fr ≤ x
      · have b2 : decide (fr ≤ x) = true := by simpa using h1
        by_cases h2 : x ≤ t0
        · have b3 : decide (x ≤ t0) = true := by simpa using h2
          have e : rb = true := HRB.out.2 ⟨HH0.out, x, HX0.out, h1, h2⟩
          subst e
          go_quiet (fail)
          go_wp2_with fail
          go_ret
          exact HFIN.out _ (drewN_kept _ _)
        · have b3 : decide (x ≤ t0) = false := by simpa using h2
          have e : rb = false := by
            cases rb
            · rfl
            · obtain ⟨y0, y, y1, y2, y3⟩ := HRB.out.1 rfl
              rw [HX0.out] at y1
              simp only [Option.some.injEq] at y1
              omega
          subst e
          go_quiet (fail)
          go_wp2_with fail
          go_ret
          exact HFIN.out _ (drewN_kept _ _)
      · have b2 : decide (fr ≤ x) = false := by simpa using h1
        have e : rb = false := by
          cases rb
          · rfl
          · obtain ⟨y0, y, y1, y2, y3⟩ := HRB.out.1 rfl
            rw [HX0.out] at y1
            simp only [Option.some.injEq] at y1
            omega
        subst e
        go_quiet (fail)
        go_wp2_with fail
        go_ret
        exact HFIN.out _ (drewN_kept _ _)
    · have b1 : ((at' : Int) == (n : Int) - 1) = false := by simpa using h0
      have e : rb = false := by
        cases rb
        · rfl
        · obtain ⟨y0, y, y1, y2, y3⟩ := HRB.out.1 rfl
          have := HN.out
          omega
      subst e
      go_quiet (fail)
      go_wp2_with fail
      go_ret
      exact HFIN.out _ (drewN_kept _ _)
  · subst e
    have HL := hide1 hL
    clear hL
    obtain ⟨nk, hnk⟩ : ∃ nk, ks.length = nk := ⟨_, rfl⟩
    have HNK := hide1 hnk
    have gnk : (nk : Int) ≤ 4096 := by have := HKL.out; omega
    clear hnk
    go_wp2_with fail
    clear x0 x1 x2 x3 x4 x5
    go_loopw [8, 9] (SqL B0 lo nb bs ND Ls R w at' ks) (fun _ k _ => nk - (intOf k).toNat)
    case atStart => exact ⟨0, R3, [at'], rfl, Nat.zero_le _, HQ3, HL3, Pl.one at', fun k' _ h => absurd h (by omega), HRK3, HX3⟩
    case round =>
      obtain ⟨k, R4, l, rfl, hk, HQ4, HL4, HP4, HNO, HRK4, HX4⟩ := hrel
      rw [HNK.out] at hk
      obtain ⟨w4, hw4⟩ : ∃ w4, w4 = wr := ⟨_, rfl⟩
      subst hw4
      obtain ⟨a4, c4, rfl, m1, m2⟩ := HL4.out.form
      obtain ⟨be, ce, bk, ck, ak, cpk, ⟨f1, f2, f3, f4⟩, _, f6, f7, f8⟩ := HQ4.out.node HI.out
      rw [HNN.out] at f1 f2 f3 f4
      replace f6 : w4.cell? ⟨bk, i, none⟩ = some (.slice ak ks.length cpk) := f6
      replace f7 : ks.length ≤ cpk := f7
      rw [HNK.out] at f6 f7
      obtain ⟨nl, hnl⟩ : ∃ nl, l.length = nl := ⟨_, rfl⟩
      have HNL := hide1 hnl
      rw [hnl] at HL4 ⊢
      clear hnl m1 m2 f1 f2
      by_cases hlt : (k : Int) < (nk : Int)
      · obtain ⟨kk, hkk⟩ : ∃ kk, ks[k]? = some kk := ⟨ks[k]'(by have := HNK.out; omega), List.getElem?_eq_getElem _⟩
        obtain ⟨cc, oo, ea, hcc⟩ := f8.cell (i := k) (x := kk) hkk
        subst ea
        have HKK := hide1 hkk
        have HEK : Hid (EndsC B0 lo nb bs ND Ls kk) := HE.out kk (List.mem_of_getElem? hkk)
        have HVK : Hid (LiveC B0 lo nb bs ND Ls kk) := HV.out kk (List.mem_of_getElem? hkk)
        have gkc : (k : Int) < (cpk : Int) := by omega
        have HPB : Hid (∀ x, SeqS bs ((ks.take k).map Ls) (fun x => x = at') x → x ≤ bs.length) := fun x hx => ((seq_at _ HAT.out x).1 hx).2.1
        clear f8 hkk
        go_wp2_with (first
          | (go_at_call 31; refine (stepD_is B0 lo nb bs ND Ls kk HEK.out R5 w5 HQ5.out _ l (SeqS bs ((ks.take k).map Ls) (fun x => x = at')) HL5.out HP4.out HPB.out).mono ?_; rintro e w6 ⟨R6, v6, l6, rfl, HQ6, HL6, HP6, HK6, HX6⟩; obtain ⟨a6, c6, e6, _, _⟩ := HL6.out.form; subst e6; obtain ⟨n6, hn6⟩ : ∃ n6, l6.length = n6 := ⟨_, rfl⟩; have HN6 := hide1 hn6; rw [hn6] at HL6 ⊢; clear hn6)
          | (go_at_call 47; refine (alive_is B0 lo nb bs ND Ls kk HVK.out R4 w4 HQ4.out _ l (HL4.out.same (Nat.le_refl _) (fun d _ hp => ⟨rfl, .inr hp⟩)) (fun x hx => HPB.out x ((HP4.out.2 x).1 hx))).mono ?_; rintro e w5 ⟨R5, b5, rfl, HB5, HQ5, HK5, HX5⟩; have HL5 : Hid (IntR (fun d => R5 d = 0 ∨ R5 d = 7) w5 (.slice a4 nl c4) l) := HL4.out.same HK5.out.size (fun d hd hp => ⟨HK5.out.same hd (.inr hp), .inr ((HX5.out d hd).trans hp)⟩); obtain ⟨be5, ce5, bk5, ck5, ak5, cpk5, ⟨g1, g2, g3, g4⟩, _, g6, g7, g8⟩ := HQ5.out.node HI.out; rw [HNN.out] at g1 g2 g3 g4; replace g6 : w5.cell? ⟨bk5, i, none⟩ = some (.slice ak5 ks.length cpk5) := g6; replace g7 : ks.length ≤ cpk5 := g7; rw [HNK.out] at g6 g7; obtain ⟨cc5, oo5, ea5, hcc5⟩ := g8.cell (i := k) (x := kk) HKK.out; subst ea5; have gkc5 : (k : Int) < (cpk5 : Int) := (by omega); clear g8 g1 g2; cases b5))
        · go_roundw
          case rel =>
            refine ⟨k + 1, R6, l6, by go_num, by rw [HNK.out]; omega, HQ6, HL6, HP6.out.iff (fun x => ?_), fun k' kk' hk' hkk' x hx hl => ?_, HRK4.out.trans HX4.out (HK5.out.trans HX5.out HK6.out), HX4.out.trans HRK4.out.size (HX5.out.trans HK5.out.size HX6.out)⟩
            · rw [List.take_add_one, HKK.out]
              show _ ↔ SeqS bs ((ks.take k ++ [kk]).map Ls) _ x
              rw [List.map_append]
              exact (seq_snoc _ _ _ x).symm
            · by_cases e : k' = k
              · subst e
                have e2 : kk = kk' := by have h := HKK.out; rw [hkk'] at h; simpa using h.symm
                subst e2
                have h := HB5.out.2 ⟨x, (HP4.out.2 x).2 hx, hl⟩
                simp at h
              · exact HNO.out k' kk' (by omega) hkk' x hx hl
          case measure => simp [intOf]; omega
        · go_ret
          obtain ⟨x, h1, h2⟩ := HB5.out.1 (by first | rfl | trivial)
          exact ⟨R5, true, rfl, ⟨fun _ => seq_live_yes HAL.out HSM.out HL.out HKK.out ((HP4.out.2 x).1 h1) h2, fun _ => rfl⟩, HQ5, HRK4.out.trans HX4.out HK5.out, HX4.out.trans HRK4.out.size HX5.out⟩
      · have HNL2 : Hid (¬ LiveS (Ls i) bs at') := seq_live_no HAL.out HSM.out HL.out (fun k' kk' hkk' x hx => HNO.out k' kk' (by have h1 := (List.getElem?_eq_some_iff.1 hkk').1; have h2 := HNK.out; omega) hkk' x hx)
        clear f8
        go_wp2_with fail
        go_ret
        exact ⟨R4, false, rfl, ⟨fun e => absurd e (by simp), fun h => absurd h HNL2.out⟩, HQ4, HRK4, HX4⟩
  · subst e
    have HL := hide1 hL
    clear hL
    obtain ⟨nk, hnk⟩ : ∃ nk, ks.length = nk := ⟨_, rfl⟩
    have HNK := hide1 hnk
    have gnk : (nk : Int) ≤ 4096 := by have := HKL.out; omega
    clear hnk
    go_wp2_with fail
    clear x0 x1 x2 x3 x4 x5
    go_loopw [10] (AlL B0 lo nb bs ND Ls R w at' ks) (fun k _ => nk - (intOf k).toNat)
    case atStart => exact ⟨0, R3, rfl, Nat.zero_le _, HQ3, fun kk h => by simp at h, HRK3, HX3⟩
    case round =>
      obtain ⟨k, R4, rfl, hk, HQ4, HNO, HRK4, HX4⟩ := hrel
      rw [HNK.out] at hk
      obtain ⟨w4, hw4⟩ : ∃ w4, w4 = wr := ⟨_, rfl⟩
      subst hw4
      obtain ⟨be, ce, bk, ck, ak, cpk, ⟨f1, f2, f3, f4⟩, _, f6, f7, f8⟩ := HQ4.out.node HI.out
      rw [HNN.out] at f1 f2 f3 f4
      replace f6 : w4.cell? ⟨bk, i, none⟩ = some (.slice ak ks.length cpk) := f6
      replace f7 : ks.length ≤ cpk := f7
      rw [HNK.out] at f6 f7
      clear f1 f2
      by_cases hlt : (k : Int) < (nk : Int)
      · obtain ⟨kk, hkk⟩ : ∃ kk, ks[k]? = some kk := ⟨ks[k]'(by have := HNK.out; omega), List.getElem?_eq_getElem _⟩
        obtain ⟨cc, oo, ea, hcc⟩ := f8.cell (i := k) (x := kk) hkk
        subst ea
        have HKK := hide1 hkk
        have HVK : Hid (LiveC B0 lo nb bs ND Ls kk) := HV.out kk (List.mem_of_getElem? hkk)
        have gkc : (k : Int) < (cpk : Int) := by omega
        clear f8 hkk
        go_wp2_with (go_at_call 21; refine (HVK.out R4 w4 at' HAT.out HQ4.out).mono ?_; rintro e w5 ⟨R5, b5, rfl, HB5, HQ5, HK5, HX5⟩; cases b5)
        · go_roundw
          case rel =>
            refine ⟨k + 1, R5, by go_num, by rw [HNK.out]; omega, HQ5, fun kk' hk' hl => ?_, HRK4.out.trans HX4.out HK5.out, HX4.out.trans HRK4.out.size HX5.out⟩
            rw [List.take_add_one, HKK.out] at hk'
            rcases List.mem_append.1 hk' with h | h
            · exact HNO.out kk' h hl
            · simp only [Option.toList_some, List.mem_cons, List.not_mem_nil, or_false] at h
              subst h
              have := HB5.out.2 hl
              simp at this
          case measure => simp [intOf]; omega
        · go_ret
          exact ⟨R5, true, rfl, ⟨fun _ => (alt_live HL.out).2 ⟨kk, List.mem_of_getElem? HKK.out, HB5.out.1 (by first | rfl | trivial)⟩, fun _ => rfl⟩, HQ5, HRK4.out.trans HX4.out HK5.out, HX4.out.trans HRK4.out.size HX5.out⟩
      · have HTK : Hid (ks.take k = ks) := List.take_of_length_le (by have := HNK.out; omega)
        clear f8
        go_wp2_with fail
        go_ret
        refine ⟨R4, false, rfl, ⟨fun e => absurd e (by simp), fun h => ?_⟩, HQ4, HRK4, HX4⟩
        obtain ⟨kk, h1, h2⟩ := (alt_live HL.out).1 h
        exact absurd h2 (HNO.out kk (by rw [HTK.out]; exact h1))
  · subst e
    have HL := hide1 hL
    clear hL
    subst ek
    have HEK : Hid (EndsC B0 lo nb bs ND Ls kk) := HE.out kk (List.mem_cons_self ..)
    have HVK : Hid (LiveC B0 lo nb bs ND Ls kk) := HV.out kk (List.mem_cons_self ..)
    have HSK : Hid (∃ u, Ls kk u) := HSM.out kk (List.mem_cons_self ..)
    have HM12 : Hid (0 ≤ mn ∧ (mx = -1 ∨ mn ≤ mx)) := ⟨hm0, by omega⟩
    obtain ⟨a0, capB, hB, lB, lN2, hby⟩ := HQ3.out.bytes
    rw [HN.out] at hB lB
    have hmk := run_makeB (n + 1) (by omega)
    have e2 : ((n + 1 : Nat) : Int) = (n : Int) + 1 := by omega
    rw [e2] at hmk
    clear hby e2 lN2
    have HM0 := hide1 (bools_new w3 (List.replicate (n + 1) false))
    have HK0 : Hid (Kept w3 (w3.alloc (.cells (boolV (List.replicate (n + 1) false)).toArray 4))) := (Kept.refl w3).alloc _ _
    go_upto_region 22 with fail
    clear hB lB hmk x0 x1 x2 x3 x4 x5
    obtain ⟨w4, hw4⟩ : ∃ w4, w3.alloc (.cells (boolV (List.replicate (n + 1) false)).toArray 4) = w4 := ⟨_, rfl⟩
    have HGM : Hid (B0 ≤ w3.heap.size ∧ w.heap.size ≤ w3.heap.size ∧ R3 w3.heap.size = 0) := ⟨HQ3.out.low, HRK3.out.size, HQ3.out.zero (Nat.le_refl _)⟩
    have HGL : Hid (gx < w3.heap.size) := HBX3.out.lt
    rw [hw4] at HM0 HK0 ⊢
    obtain ⟨gm, hgm⟩ : ∃ gm, w3.heap.size = gm := ⟨_, rfl⟩
    rw [hgm] at HM0 HGM HGL ⊢
    clear hw4
    have HL4 : Hid (IntR (fun d => d ≠ gm ∧ (R3 d = 0 ∨ R3 d = 7)) w4 (.slice (some ⟨gz, 0, none⟩) 1 1) [at']) := HL3.out.same HK0.out.size (fun d hd hp => ⟨HK0.out.2.2.2.2 d hd, by omega, .inr hp⟩)
    clear hgm
    have hold := HM0.out.cell (i := at') (x := false) (by rw [List.getElem?_replicate, if_pos (by omega)])
    have hfz := HM0.out.free at'
    go_upto_region 23 with fail
    have HM5 := hide1 (HM0.out.put (k := at') (x := true))
    have HB5 : Hid (ButB gm w4 (w4.setCell ⟨gm, at', none⟩ (.bool true))) := (ButB.refl gm w4).set
    obtain ⟨w5, hw5⟩ : ∃ w5, w4.setCell ⟨gm, at', none⟩ (.bool true) = w5 := ⟨_, rfl⟩
    rw [hw5] at HM5 HB5 ⊢
    clear hw5 hold hfz
    obtain ⟨ms0, hms0⟩ : ∃ ms0, (List.replicate (n + 1) false).set at' true = ms0 := ⟨_, rfl⟩
    rw [hms0] at HM5
    have HML0 : Hid (ms0.length = bs.length + 1) := by show _ = _; rw [← hms0, List.length_set, List.length_replicate, HN.out]
    have HMS0 : Hid (∀ k, ms0[k]? = some true ↔ k = at') := fun k => by
      rw [← hms0]
      by_cases e : k = at'
      · subst e
        rw [List.getElem?_set_self (by rw [List.length_replicate]; omega)]
        simp
      · rw [List.getElem?_set_ne (fun h => e h.symm), List.getElem?_replicate]
        constructor
        · intro h; split at h <;> simp at h
        · intro h; exact absurd h e
    clear hms0
    have HQ5 := hide1 (HB5.out.net (HQ3.out.kept HK0.out) HGM.out.1 HGM.out.2.2)
    have HRK5 := hide1 (HB5.out.rk (HRK3.out.trans HX3.out (RK.of HK0.out)) HGM.out.2.1)
    have HBX5 : Hid (BoxAt w5 gx (.int .i64 4) (.int .i64 fr) (.int .i64 t0) (.int .i64 mn) (.int .i64 mx) (.slice xa xn xc)) := (HB5.out.2.2.2.2 gx (by have := HGL.out; omega)).trans (HBX3.out.keep HK0.out)
    have HGX5 : Hid (R3 gx = 0 ∧ gx < w5.heap.size) := ⟨HGX3.out.1, HBX5.out.lt⟩
    have HV5 : Hid (IntR (fun d => d ≠ gm ∧ (R3 d = 0 ∨ R3 d = 7)) w5 (.slice (some ⟨gz, 0, none⟩) 1 1) [at']) := HB5.out.ints HL4.out (fun h => h.1 rfl)
    obtain ⟨⟨x0, x1, x2, x3, x4, x5⟩, _⟩ := HBX5.out.facts
    go_wp2_with fail
    clear x0 x1 x2 x3 x4 x5
    go_loopw [8, 12] (RpL B0 lo nb bs ND Ls R w at' gm gx kk mx (fun wr => BoxAt wr gx (.int .i64 4) (.int .i64 fr) (.int .i64 t0) (.int .i64 mn) (.int .i64 mx) (.slice xa xn xc))) (fun vf _ wr => 2 * fals wr gm + min 1 (lenV vf))
    case atStart =>
      refine ⟨0, R3, ms0, fun k => ms0[k]? = some true, [at'], rfl, ?_, ?_, HQ5, HM5, HML0, wavel_begin HMS0.out, HV5, (Pl.one at').iff (fun k => (HMS0.out k).symm), HRK5, HX3, HGM.out.2.2, HBX5, HGX5⟩
      · rcases hm2 with h | h
        · exact .inl h
        · exact .inr (by show (0 : Int) ≤ _; omega)
      · have h1 := cntF_le ms0
        rw [HML0.out] at h1
        show 0 + cntF ms0 ≤ _
        omega
    case round =>
      obtain ⟨w6, hw6⟩ : ∃ w6, w6 = wr := ⟨_, rfl⟩
      subst hw6
      obtain ⟨j, R5, ms, F, l, rfl, HJM, HJC, HQ6, HM6, HML, HWV, HV6, HPF, HRK6, HX6, HG6, HBX6, HGX6⟩ := hrel
      obtain ⟨a6, c6, rfl, p3, p4⟩ := HV6.out.form
      obtain ⟨nl, hnl⟩ : ∃ nl, l.length = nl := ⟨_, rfl⟩
      have HNL := hide1 hnl
      rw [hnl] at p3 p4 HV6 ⊢
      have gj : (j : Int) ≤ 300000 := by
        have h1 := HJC.out
        have h2 := HN.out
        split at h1 <;> omega
      obtain ⟨gb, HGB⟩ : ∃ gb : Bool, Hid (gb = true ↔ (((j : Int) < mx ∨ mx < 0) ∧ (0 : Int) < (nl : Int))) := by
        by_cases h : ((j : Int) < mx ∨ mx < 0) ∧ (0 : Int) < (nl : Int)
        · exact ⟨true, ⟨fun _ => h, fun _ => rfl⟩⟩
        · exact ⟨false, ⟨fun e => absurd e (by simp), fun e => absurd e h⟩⟩
      obtain ⟨⟨x0, x1, x2, x3, x4, x5⟩, _⟩ := HBX6.out.facts
      clear hnl
      go_upto_region 24 with fail
      go_cut [152] from 139 to 151 (fun c wx => c = .bool gb ∧ wx = w6)
      case first =>
        by_cases h1 : (j : Int) < mx
        · by_cases h2 : (0 : Int) < (nl : Int)
          · have e : gb = true := HGB.out.2 ⟨.inl h1, h2⟩
            subst e
            go_wp2_with fail
            go_meet
            exact ⟨by first | rfl | (congr 1; simp; omega), rfl⟩
          · have e : gb = false := by
              cases gb
              · rfl
              · exact absurd (HGB.out.1 rfl).2 h2
            subst e
            go_wp2_with fail
            go_meet
            exact ⟨by first | rfl | (congr 1; simp; omega), rfl⟩
        · by_cases h3 : mx < 0
          · by_cases h2 : (0 : Int) < (nl : Int)
            · have e : gb = true := HGB.out.2 ⟨.inr h3, h2⟩
              subst e
              go_wp2_with fail
              go_meet
              exact ⟨by first | rfl | (congr 1; simp; omega), rfl⟩
            · have e : gb = false := by
                cases gb
                · rfl
                · exact absurd (HGB.out.1 rfl).2 h2
              subst e
              go_wp2_with fail
              go_meet
              exact ⟨by first | rfl | (congr 1; simp; omega), rfl⟩
          · have e : gb = false := by
              cases gb
              · rfl
              · rcases (HGB.out.1 rfl).1 with h | h
                · exact absurd h h1
                · exact absurd h h3
            subst e
            go_wp2_with fail
            go_meet
            exact ⟨by first | rfl | (congr 1; simp; omega), rfl⟩
      case rest =>
        obtain ⟨rfl, hw0⟩ := hcut
        have hw0 := hw0.symm
        subst hw0
        clear x0 x1 x2 x3 x4 x5
        cases gb
        · have HEX : Hid ((∀ k, ¬ F k) ∨ (j : Int) = mx) := by
            by_cases h2 : (0 : Int) < (nl : Int)
            · right
              have h3 : ¬ ((j : Int) < mx ∨ mx < 0) := fun h => absurd (HGB.out.2 ⟨h, h2⟩) (by simp)
              have h4 := HJM.out
              omega
            · left
              intro k hk
              have h5 := (HPF.out.2 k).2 hk
              have h6 : l = [] := List.length_eq_zero_iff.1 (by have := HNL.out; omega)
              rw [h6] at h5
              simp at h5
          have HEND := hide1 (wavel_end HSK.out HM12.out.1 HM12.out.2 HAL.out HWV.out HEX.out)
          have hz : ms[n]? = some false := by
            have h1 := HEND.out.2
            have h2 := HML.out
            rw [HN.out] at h1 h2
            obtain ⟨z, hz⟩ : ∃ z, ms[n]? = some z := ⟨_, List.getElem?_eq_getElem (by omega)⟩
            cases z
            · exact hz
            · exact absurd hz h1
          have hold := HM6.out.cell hz
          obtain ⟨a0, capB, hB, lB, lN2, hby⟩ := HQ6.out.bytes
          rw [HN.out] at hB lB
          clear hz hby lN2
          go_wp2_with fail
          go_ret
          exact ⟨R5, false, rfl, ⟨fun e => absurd e (by simp), fun h => absurd ((live_iff' HL.out).1 h) HEND.out.1⟩, HQ6, HRK6, HX6⟩
        · have HGT := hide1 (HGB.out.1 (by first | rfl | trivial))
          obtain ⟨be, ce, bk, ck, ak, cpk, ⟨f1, f2, f3, f4⟩, _, f6, f7, f8⟩ := HQ6.out.node HI.out
          rw [HNN.out] at f1 f2 f3 f4
          obtain ⟨cc, oo, e1, f9⟩ := f8.cell (i := 0) (x := kk) rfl
          subst e1
          have f9 : w6.cell? ⟨cc, oo, none⟩ = some (.int .i64 (kk : Int)) := by simpa using f9
          replace f6 : w6.cell? ⟨bk, i, none⟩ = some (.slice (some ⟨cc, oo, none⟩) 1 cpk) := f6
          have b0 : (0 : Int) < 1 := by omega
          have HPB : Hid (∀ x, F x → x ≤ bs.length) := fun x hx => (pow_in HAT.out (HWV.out.1.2.2.1 x hx)).2
          clear f8 f7 f1 f2
          go_wp2_with (first
            | (go_at_call 31; refine (stepD_is B0 lo nb bs ND Ls kk HEK.out R8 w8 HQ8.out _ l F (HV8.out.same (Nat.le_refl _) (fun d _ hp => ⟨rfl, hp.2⟩)) HPF.out HPB.out).mono ?_; rintro e w7 ⟨R7, v7, l7, rfl, HQ7, HL7, HP7, HK7, HX7⟩; obtain ⟨a7, c7, e7, m1, m2⟩ := HL7.out.form; subst e7; obtain ⟨n7, hn7⟩ : ∃ n7, l7.length = n7 := ⟨_, rfl⟩; have HN7 := hide1 hn7; rw [hn7] at m1 m2 HL7 ⊢; clear hn7)
            | (go_at_call 47; refine (alive_is B0 lo nb bs ND Ls kk HVK.out R5 w6 HQ6.out _ l (HV6.out.same (Nat.le_refl _) (fun d _ hp => ⟨rfl, hp.2⟩)) (fun x hx => HPB.out x ((HPF.out.2 x).1 hx))).mono ?_; rintro e w8 ⟨R8, b8, rfl, HB8, HQ8, HK8, HX8⟩; have HV8 : Hid (IntR (fun d => d ≠ gm ∧ (R8 d = 0 ∨ R8 d = 7)) w8 (.slice a6 nl c6) l) := HV6.out.same HK8.out.size (fun d hd hp => ⟨HK8.out.same hd hp.2, hp.1, by rw [HX8.out d hd]; exact hp.2⟩); obtain ⟨be8, ce8, bk8, ck8, ak8, cpk8, ⟨g1, g2, g3, g4⟩, _, g6, g7, g8⟩ := HQ8.out.node HI.out; rw [HNN.out] at g1 g2 g3 g4; obtain ⟨cc8, oo8, e8, g9⟩ := g8.cell (i := 0) (x := kk) rfl; subst e8; replace g9 : w8.cell? ⟨cc8, oo8, none⟩ = some (.int .i64 (kk : Int)) := (by simpa using g9); replace g6 : w8.cell? ⟨bk8, i, none⟩ = some (.slice (some ⟨cc8, oo8, none⟩) 1 cpk8) := g6; clear g8 g7 g1 g2; cases b8))
          · have hgw6 : gm < w6.heap.size := HM6.out.lt
            have hgw : gm < w8.heap.size := Nat.lt_of_lt_of_le hgw6 HK8.out.size
            have HGW : Hid (gm < w7.heap.size) := Nat.lt_of_lt_of_le hgw HK7.out.size
            have HG8 : Hid (R8 gm = 0) := (HX8.out _ hgw6).trans HG6.out
            have HM8a : Hid (BoolsAt w8 gm ms) := (HK8.out.same hgw6 (.inl HG6.out)).trans HM6.out
            have HG7 : Hid (R7 gm = 0) := (HX7.out _ hgw).trans HG8.out
            have HM7 : Hid (BoolsAt w7 gm ms) := (HK7.out.same hgw (.inl HG8.out)).trans HM8a.out
            have HNOL : Hid (∀ x, F x → ¬ LiveS (Ls kk) bs x) := fun x hx hl => by have h := HB8.out.2 ⟨x, (HPF.out.2 x).2 hx, hl⟩; simp at h
            have HRK8 : Hid (RK R w w8) := HRK6.out.trans HX6.out HK8.out
            have HXR8 : Hid (RX R R8 w) := HX6.out.trans HRK6.out.size HX8.out
            have HGX8 : Hid (R8 gx = 0 ∧ gx < w8.heap.size) := ⟨(HX8.out gx HGX6.out.2).trans HGX6.out.1, Nat.lt_of_lt_of_le HGX6.out.2 HK8.out.size⟩
            have HBX8 : Hid (BoxAt w8 gx (.int .i64 4) (.int .i64 fr) (.int .i64 t0) (.int .i64 mn) (.int .i64 mx) (.slice xa xn xc)) := (HK8.out.same HGX6.out.2 (.inl HGX6.out.1)).trans HBX6.out
            have HB7 : Hid (∀ x ∈ l7, x < ms.length) := fun x hx => by
              obtain ⟨_, _, h⟩ := (HP7.out.2 x).1 hx
              have := h.2.1
              rw [HML.out]
              omega
            clear f3 f4 f6 f9 g3 g4 g6 g9 hgw hgw6
            go_loopw [8, 14] (FrR gm ms l7 w7) (fun _ j _ => n7 - (intOf j).toNat)
            case atStart => exact ⟨0, rfl, Nat.zero_le _, HM7, PlO.nil _ _, but_refl gm w7⟩
            case round =>
              obtain ⟨j2, rfl, hj2, HM8, HO8, HB9⟩ := hrel
              rw [HN7.out] at hj2
              obtain ⟨f, hf⟩ : ∃ f, frF ms (l7.take j2) = f := ⟨_, rfl⟩
              have HF := hide1 hf
              rw [hf] at HO8
              obtain ⟨a8, c8, rfl⟩ := HO8.out.form
              obtain ⟨n8, hn8⟩ : ∃ n8, f.length = n8 := ⟨_, rfl⟩
              have HN8 := hide1 hn8
              have g8 : n8 ≤ 300000 := by
                have h1 := frF_len ms (l7.take j2)
                have h2 := HP7.out.len (n := n) (fun k ⟨_, _, h⟩ => by have := h.2.1; have := HN.out; omega)
                rw [hf, hn8, List.length_take] at h1
                omega
              rw [hn8] at HO8 ⊢
              clear hf hn8
              by_cases hlt2 : (j2 : Int) < (n7 : Int)
              · obtain ⟨y, hy⟩ : ∃ y, l7[j2]? = some y := ⟨l7[j2]'(by have := HN7.out; omega), List.getElem?_eq_getElem _⟩
                have hne : ∀ d, R7 d = 7 → d ≠ gm := fun d hd e => by rw [e, HG7.out] at hd; omega
                have hv2 : IntR (fun d => R7 d = 7) wr (.slice a7 n7 c7) l7 := HL7.out.same HB9.out.2.2.2.1 (fun d hd hp => ⟨HB9.out.2.2.2.2 d hd (hne d hp), hp⟩)
                have hy7 : l7[j2]? = some y := hy
                obtain ⟨a7', cap7', e7', _, _, h7'⟩ := hv2
                simp only [Value.slice.injEq] at e7'
                obtain ⟨rfl, e7n, rfl⟩ := e7'
                clear e7n
                obtain ⟨cd, od, ed, hcd1, hcd2, hcd3⟩ := h7'.resolve_left (fun e => by rw [e] at hy7; simp at hy7)
                subst ed
                have hc3 := hcd3 j2 y hy
                have hcg : cd ≠ gm := hne cd hcd2
                have hc4 : (wr.setCell ⟨gm, y, none⟩ (.bool true)).cell? ⟨cd, od + j2, none⟩ = some (.int .i64 (y : Int)) := (World.cell?_of_block (a := ⟨cd, od + j2, none⟩) (heap_put hcg)).trans hc3
                have HY : Hid (y ≤ n) := by
                  obtain ⟨_, _, h⟩ := (HP7.out.2 y).1 (List.mem_of_getElem? hy)
                  rw [← HN.out]
                  exact h.2.1
                have hyn := HY.out
                have gy : (y : Int) < (n : Int) + 1 := by omega
                have HT : Hid (l7.take (j2 + 1) = l7.take j2 ++ [y]) := by show _ = _; rw [List.take_add_one, hy]; rfl
                have HNW := hide1 (mark_new HP7.out.1 HB7.out hy)
                obtain ⟨z, hz⟩ : ∃ z, (markL2 ms (l7.take j2))[y]? = some z := ⟨_, List.getElem?_eq_getElem (by rw [markL2_len, HML.out, HN.out]; omega)⟩
                have HZ := hide1 hz
                have hold := HM8.out.cell hz
                have hfz := HM8.out.free y
                have gj2 : (j2 : Int) < (c7 : Int) := by omega
                clear hy hy7 hz hyn hcd1 hcd2 hcd3 hcg h7' hne
                cases z
                · have HNM : Hid (¬ ms[y]? = some true) := fun h => by have := HNW.out.2 h; rw [HZ.out] at this; simp at this
                  have HO8b : Hid (PlO (wr.setCell ⟨gm, y, none⟩ (.bool true)) w7.heap.size (.slice a8 n8 c8) f) := HO8.out.same (fun g hg => heap_put (fun e => by have h1 := (HO8.out.lt g hg).1; have h2 := HGW.out; omega))
                  have HSZ : Hid ((wr.setCell ⟨gm, y, none⟩ (.bool true)).heap.size = wr.heap.size) := by show _ = _; simp [World.setCell]
                  have HB8b : Hid (KeptBut gm w7 (wr.setCell ⟨gm, y, none⟩ (.bool true))) := but_set HB9.out y _
                  have HM8b : Hid (BoolsAt (wr.setCell ⟨gm, y, none⟩ (.bool true)) gm ((markL2 ms (l7.take j2)).set y true)) := HM8.out.put
                  go_wp2_with (at_builtin; refine wpl_place rfl _ _ rfl (wr.setCell ⟨gm, y, none⟩ (.bool true)) w7.heap.size _ f n8 HN8.out y _ (by rfl) HO8b.out (by rw [HSZ.out]; rfl) (by omega) HB8b.out.2.2.2.1 ?_; intro g9 c9 w9 h1 h2 h3; have HO9 := hide1 h1; have HK9 := hide1 (HB8b.out.place HO8b.out h2); have HM9 : Hid (BoolsAt w9 gm ((markL2 ms (l7.take j2)).set y true)) := (h2.block gm (Nat.lt_of_lt_of_le HM8b.out.lt ((Kept.refl _).alloc _ _).size) (fun e => by have h4 := (HO8b.out.lt gm e.symm).1; have h5 := HGW.out; omega)).trans (HM8b.out.keep ((Kept.refl _).alloc _ _)); clear h1 h2 h3)
                  go_roundw
                  case rel => exact ⟨j2 + 1, by go_num, by rw [HN7.out]; omega, by rw [HT.out, markL2_snoc]; exact HM9.out, by rw [HT.out, frF_snoc, if_neg HNM.out, HF.out]; exact HO9.out, HK9.out⟩
                  case measure => simp [intOf]; omega
                · have HMT : Hid (ms[y]? = some true) := HNW.out.1 HZ.out
                  go_wp2_with fail
                  go_roundw
                  case rel => exact ⟨j2 + 1, by go_num, by rw [HN7.out]; omega, by rw [HT.out, markL2_snoc, set_true HZ.out]; exact HM8.out, by rw [HT.out, frF_snoc, if_pos HMT.out, List.append_nil, HF.out]; exact HO8.out, HB9.out⟩
                  case measure => simp [intOf]; omega
              · have HE2 : Hid (l7.take j2 = l7) := List.take_of_length_le (by have := HN7.out; omega)
                have HCN : Hid (cntF (markL2 ms l7) + f.length = cntF ms) := by
                  have h1 := cnt_fresh HP7.out.1 HB7.out l7.length (Nat.le_refl _)
                  rw [List.take_length] at h1
                  have h2 := HF.out
                  rw [HE2.out] at h2
                  rw [h2] at h1
                  exact h1
                have HM9 : Hid (BoolsAt wr gm (markL2 ms l7)) := by have h := HM8.out; rw [HE2.out] at h; exact h
                have HF9 : Hid (frF ms l7 = f) := by have h := HF.out; rw [HE2.out] at h; exact h
                go_wp2_with fail
                go_roundw
                case rel =>
                  have hs := HB9.out.2.2.2.1
                  have hgw := HGW.out
                  have hxs := (HX7.out gx HGX8.out.2).trans HGX8.out.1
                  have hgx7 : gx < w7.heap.size := Nat.lt_of_lt_of_le HGX8.out.2 HK7.out.size
                  have hgne : gx ≠ gm := by have := HGL.out; omega
                  refine ⟨j + 1, R7, markL2 ms l7, fun k => StepS (Ls kk) bs F k ∧ ¬ ms[k]? = some true, f, by go_num, ?_, ?_, ?_, HM9, (show _ = _ by rw [markL2_len]; exact HML.out), wavel_next HWV.out HNOL.out (fun k => by rw [markL2_get _ _ HB7.out, HP7.out.2]) (fun k => Iff.rfl), ?_, ?_, ?_, HXR8.out.trans HRK8.out.size HX7.out, HG7, ?_, ⟨hxs, by omega⟩⟩
                  · have h1 := HGT.out.1
                    rcases hm2 with h | h
                    · exact .inl h
                    · exact .inr (by omega)
                  · have h1 := HJC.out
                    have h2 := HCN.out
                    have h3 : ¬ l = [] := fun e => by have h4 := HNL.out; rw [e] at h4; have h5 := HGT.out.2; simp at h4; omega
                    rw [if_neg h3] at h1
                    show j + 1 + cntF (markL2 ms l7) ≤ _
                    split
                    · omega
                    · rename_i h4
                      have := List.length_pos_iff.2 h4
                      omega
                  · exact HQ7.out.same hs (fun d hd hd2 => HB9.out.2.2.2.2 d hd (fun e => by subst e; rcases hd2 with h | h; exact h HG7.out; have := HGM.out.1; omega))
                  · refine (HO8.out.ints (by have := HN8.out; omega)).same (Nat.le_refl _) (fun d _ hp => ⟨rfl, ?_⟩)
                    have h1 := (HO8.out.lt d hp).1
                    exact ⟨by omega, .inl (HQ7.out.zero h1)⟩
                  · rw [← HF9.out]
                    exact ⟨frF_rise HP7.out.1, fun k => by rw [frF_mem, HP7.out.2]⟩
                  · refine ⟨HB9.out.1.trans (HK7.out.1.trans HRK8.out.1), HB9.out.2.1.trans (HK7.out.2.1.trans HRK8.out.2.1), HB9.out.2.2.1.trans (HK7.out.2.2.1.trans HRK8.out.2.2.1), Nat.le_trans HRK8.out.size (Nat.le_trans HK7.out.size hs), fun d hd => ?_⟩
                    have h1 := Nat.lt_of_lt_of_le hd.1 HRK8.out.size
                    have h2 := HGM.out.2.1
                    have h3 : d ≠ gm := by have := hd.1; omega
                    refine (HB9.out.2.2.2.2 d (Nat.lt_of_lt_of_le h1 HK7.out.size) h3).trans ((HK7.out.same h1 ?_).trans (HRK8.out.same hd.1 hd.2))
                    rw [HXR8.out d hd.1]
                    exact hd.2
                  · exact (HB9.out.2.2.2.2 gx hgx7 hgne).trans ((HK7.out.same HGX8.out.2 (.inl HGX8.out.1)).trans HBX8.out)
                case measure =>
                  have h1 := HCN.out
                  have h2 := HN8.out
                  have h3 := HGT.out.2
                  rw [HM6.out.fals, HM9.out.fals]
                  simp only [lenV]
                  omega
          · go_ret
            obtain ⟨x, h1, h2⟩ := HB8.out.1 (by first | rfl | trivial)
            exact ⟨R8, true, rfl, ⟨fun _ => (live_iff' HL.out).2 (wavel_yes HSK.out HM12.out.1 HM12.out.2 HAL.out HWV.out HGT.out.1 ((HPF.out.2 x).1 h1) h2), fun _ => rfl⟩, HQ8, HRK6.out.trans HX6.out HK8.out, HX6.out.trans HRK6.out.size HX8.out⟩

end Ex
end Go.Proofs.YtlgojnodhbmlkaaGreatDoor
namespace Go.Proofs.YtlgojnodhbmlkaaGreatDoor
open Go.RowKit
namespace Ex

/-- live of every value of the net. -/
theorem live_all (B0 nb : Nat) (bs : List Int) (ND : List NodeT) (Ls : Nat → List Int → Prop) (hsys : Sys ND Ls) (hbs : ∀ x ∈ bs, 0 ≤ x ∧ x ≤ 255) : ∀ (d i : Nat) (lo : Nat → Nat → Option Int), ND.length - i ≤ d → i < ND.length → (∀ k y, i ≤ k → lo k y = none) → LiveC B0 lo nb bs ND Ls i
  | 0, i, _, h1, h2, _ => absurd h2 (by omega)
  | d + 1, i, lo, h1, h2, hlo => by
    obtain ⟨nd, hi⟩ : ∃ nd, ND[i]? = some nd := ⟨_, List.getElem?_eq_getElem h2⟩
    obtain ⟨k0, fr, t0, mn, mx, ks⟩ := nd
    have hok := hsys.2 i _ hi
    refine liveD_is B0 lo nb bs ND Ls i h2 hok.2.2.1 (fun y => hlo i y (Nat.le_refl _)) (fun at' hat => ?_)
    refine withinD_is B0 (openL lo i at') nb bs ND Ls hsys hbs i k0 fr t0 mn mx ks hi (fun k hk => ?_) (fun k hk => ?_) at' hat
    · have h3 := hok.1 k hk
      exact ends_all B0 (openL lo i at') nb bs ND Ls hsys hbs (ND.length - k) k (Nat.le_refl _) h3.2
    · have h3 := hok.1 k hk
      refine live_all B0 nb bs ND Ls hsys hbs d k (openL lo i at') (by omega) h3.2 (fun k' y hk' => ?_)
      unfold openL
      rw [if_neg (by omega)]
      exact hlo k' y (by omega)

end Ex
end Go.Proofs.YtlgojnodhbmlkaaGreatDoor
