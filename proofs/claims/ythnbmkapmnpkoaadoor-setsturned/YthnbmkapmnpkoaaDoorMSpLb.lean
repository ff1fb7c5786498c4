import Derived.Test.YthnbmkapmnpkoaaDoorMSpPm
import Derived.Deep.CutRange
namespace Go.Proofs.YthnbmkapmnpkoaaDoor
open Go.RowKit
attribute [local go_sem] Oper.semAt_some
namespace Ex

set_option linter.unusedSimpArgs false in
set_option maxRecDepth 100000 in
set_option maxHeartbeats 16000000 in
/-- SetsTurned. -/
theorem turned_is (k : Nat) (lex : List (LexM k)) (ps : List ProdM) (al an ap : Option Addr) (nl cl nn cn np cp : Nat) (st turn : Int) (a2 : Option Addr) (n2 c2 : Nat) (tw : List Int) (w : World) (hnn : nn ≤ 17592186044416) (hlex : lex.length = nl) (hps : ps.length = np) (htw : tw.length = n2) (hl : LexAt w k (.slice al nl cl) lex) (hp : ProdsAt w (.slice ap np cp) ps) (ht : IntsR w (.slice a2 n2 c2) tw) (hT : TabAt w) :
    Calls Tryd.prog 3 #[.agg #[.slice al nl cl, .slice an nn cn, .int .i64 st, .slice ap np cp], .int .i64 turn, .slice a2 n2 c2] w fun e w' => e = .returned (.bool true) ∧ Kept w w' := by
  obtain ⟨_, _, e1, hc, hn⟩ := hp.len
  simp only [Value.slice.injEq] at e1
  obtain ⟨rfl, en, rfl⟩ := e1
  clear en
  rw [hps] at hc hn
  have gn : (np : Int) ≤ 17592186044416 := by omega
  obtain ⟨_, _, e1, hc2, hn2⟩ := SliceOf.len ht
  simp only [Value.slice.injEq] at e1
  obtain ⟨rfl, en, rfl⟩ := e1
  clear en
  rw [htw] at hc2 hn2
  have gn2 : (n2 : Int) ≤ 17592186044416 := by omega
  have HB := hide1 (SBox.new w (.slice al nl cl) (.slice an nn cn) (.int .i64 st) (.slice ap np cp))
  have HK : Hid (Kept w (w.alloc (.cells #[.slice al nl cl, .slice an nn cn, .int .i64 st, .slice ap np cp] 26))) := (Kept.refl w).alloc _ _
  have HP := hide1 hp
  have HL := hide1 hl
  have HPS := hide1 hps
  have HLEN := hide1 hlex
  have HTW := hide1 htw
  have HTI := hide1 ht
  have HT := hide1 hT
  have HNN := hide1 hnn
  clear hp hps hl hlex hnn hT ht htw
  go_enter Tryd.func3, Tryd.ntmps3
  go_upto_region 1 with fail
  obtain ⟨W, hW⟩ : ∃ W, w.alloc (.cells #[.slice al nl cl, .slice an nn cn, .int .i64 st, .slice ap np cp] 26) = W := ⟨_, rfl⟩
  rw [hW] at HB HK ⊢
  clear hW
  obtain ⟨sb, hsb⟩ : ∃ sb, w.heap.size = sb := ⟨_, rfl⟩
  rw [hsb] at HB ⊢
  clear hsb
  obtain ⟨s0, s1, s2, s3⟩ := HB.out.facts
  go_wp2_with fail
  refine (told_is k lex ps al an ap nl cl nn cn np cp st _ HNN.out HLEN.out HPS.out (HL.out.keep HK.out) (HP.out.keep HK.out) (HT.out.keep HK.out)).mono ?_
  rintro e w1 ⟨x, hq, hk1, hor⟩
  have HQ := hide1 hq
  have HK1 := hide1 hk1
  have HB1 := hide1 (HB.out.keep hk1)
  have HKw1 := hide1 (gtrans HK.out hk1)
  clear s0 s1 s2 s3 hq hk1
  obtain ⟨s0, s1, s2, s3⟩ := HB1.out.facts
  rcases hor with ⟨hx0, rfl⟩ | ⟨hx0, g1, g2, g3, ay, m, y, rfl, o1, o2, o3, o4, o5⟩
  · go_upto_region 2 with fail
    clear s0 s1 s2 s3
    have HA1 : Hid (Kept w1 (w1.alloc (.cells #[.slice none 0 0, .slice none 0 0, .slice none 0 0, .slice none 0 0, .bool false] 31))) := (Kept.refl w1).alloc _ _
    obtain ⟨W2, hW2⟩ : ∃ W2, w1.alloc (.cells #[.slice none 0 0, .slice none 0 0, .slice none 0 0, .slice none 0 0, .bool false] 31) = W2 := ⟨_, rfl⟩
    rw [hW2] at HA1 ⊢
    clear hW2
    have HKw2 := hide1 (gtrans HKw1.out HA1.out)
    obtain ⟨s0, s1, s2, s3⟩ := (HB1.out.keep HA1.out).facts
    go_wp2_with (go_at_call 10; refine (head_is7 _ (HT.out.keep HKw2.out)).mono ?_; rintro e w9 ⟨rfl, hk9⟩; have HK9 := hide1 hk9; clear hk9)
    go_ret
    exact ⟨rfl, gtrans HKw2.out HK9.out⟩
  · have HQ0 : Hid (CheckQ lex ps nn nl st (0, 0)) := by
      have h := HQ.out
      rw [(checkQ_ok h hx0).1] at h
      exact h
    obtain ⟨fl, hfl⟩ : ∃ fl, (y.1 == 6) = fl := ⟨_, rfl⟩
    rw [hfl]
    have HFL := hide1 hfl
    have O1 := hide1 o1
    have O2 := hide1 o2
    have O3 := hide1 o3
    have O4 := hide1 o4
    have O5 := hide1 o5
    clear hfl o1 o2 o3 o4 o5 hx0
    go_upto_region 2 with fail
    clear s0 s1 s2 s3
    have HA1 : Hid (Kept w1 (w1.alloc (.cells #[.slice (some ⟨g1, 0, none⟩) nn nn, .slice (some ⟨g2, 0, none⟩) nn nn, .slice (some ⟨g3, 0, none⟩) nn nn, .slice ay m m, .bool fl] 31))) := (Kept.refl w1).alloc _ _
    have HTD : Hid (TdBox (w1.alloc (.cells #[.slice (some ⟨g1, 0, none⟩) nn nn, .slice (some ⟨g2, 0, none⟩) nn nn, .slice (some ⟨g3, 0, none⟩) nn nn, .slice ay m m, .bool fl] 31)) w1.heap.size (.slice (some ⟨g1, 0, none⟩) nn nn) (.slice (some ⟨g2, 0, none⟩) nn nn) (.slice (some ⟨g3, 0, none⟩) nn nn) (.slice ay m m) fl) := heap_alloc_new w1 _
    obtain ⟨W2, hW2⟩ : ∃ W2, w1.alloc (.cells #[.slice (some ⟨g1, 0, none⟩) nn nn, .slice (some ⟨g2, 0, none⟩) nn nn, .slice (some ⟨g3, 0, none⟩) nn nn, .slice ay m m, .bool fl] 31) = W2 := ⟨_, rfl⟩
    rw [hW2] at HA1 HTD ⊢
    clear hW2
    obtain ⟨tb, htb⟩ : ∃ tb, w1.heap.size = tb := ⟨_, rfl⟩
    rw [htb] at HTD ⊢
    clear htb
    have HKw2 := hide1 (gtrans HKw1.out HA1.out)
    have HB2 := hide1 (HB1.out.keep HA1.out)
    have O12 := hide1 (nullOk_keep O1.out HA1.out)
    have O22 := hide1 (firstOk_keep O2.out HA1.out)
    have O32 := hide1 (followOk_keep O3.out HA1.out)
    have O42 := hide1 (yldO_keep O4.out HA1.out)
    obtain ⟨s0, s1, s2, s3⟩ := HB2.out.facts
    by_cases hnp : np = 0
    · subst hnp
      go_wp2_with (go_at_call 10; refine (head_is7 _ (HT.out.keep HKw2.out)).mono ?_; rintro e w9 ⟨rfl, hk9⟩; have HK9 := hide1 hk9; clear hk9)
      go_ret
      exact ⟨rfl, gtrans HKw2.out HK9.out⟩
    · have hnp0 : ((np : Int) == 0) = false := by simp; omega
      have h512 : np ≤ 512 := by have := check_512 HQ0.out; have := HPS.out; omega
      go_upto_region 7 with fail
      clear s0 s1 s2 s3
      have HK3 : Hid (Kept W2 (W2.alloc (.cells #[.slice al nl cl, .slice an nn cn, .int .i64 st, .slice none 0 0] 26))) := (Kept.refl W2).alloc _ _
      have HO : Hid (SBox (W2.alloc (.cells #[.slice al nl cl, .slice an nn cn, .int .i64 st, .slice none 0 0] 26)) W2.heap.size (.slice al nl cl) (.slice an nn cn) (.int .i64 st) (.slice none 0 0)) := SBox.new _ _ _ _ _
      obtain ⟨W3, hW3⟩ : ∃ W3, W2.alloc (.cells #[.slice al nl cl, .slice an nn cn, .int .i64 st, .slice none 0 0] 26) = W3 := ⟨_, rfl⟩
      rw [hW3] at HK3 HO ⊢
      clear hW3
      obtain ⟨ob, hob⟩ : ∃ ob, W2.heap.size = ob := ⟨_, rfl⟩
      rw [hob] at HO ⊢
      have HOB := hide1 hob
      clear hob
      obtain ⟨kk, hkk, hkr⟩ := tm_round turn np (by omega)
      have HKR := hide1 hkr
      have g1n : (1 : Int) ≤ (np : Int) := by omega
      have b1 := Int.tmod_lt_of_pos turn (show (0 : Int) < (np : Int) by omega)
      have b2 := Int.lt_tmod_of_pos turn (show (0 : Int) < (np : Int) by omega)
      obtain ⟨t, ht⟩ : ∃ t, turn.tmod (np : Int) = t := ⟨_, rfl⟩
      rw [ht] at b1 b2 HKR
      clear hkr
      have hz : ¬ (np : Int) = 0 := by omega
      have hz1 : ¬ (np : Int) = -1 := by omega
      go_upto_if 44 with fail
      clear ht
      go_cut [12] from 40 to 47 (fun c wx => c = .int .i64 (kk : Int) ∧ wx = W3)
      case first =>
        by_cases h0 : t < 0
        · have HE := hide1 (HKR.out.1 h0)
          go_wp2_with fail
          go_meet
          exact ⟨by rw [HE.out], rfl⟩
        · have HE := hide1 (HKR.out.2 h0)
          go_wp2_with fail
          go_meet
          exact ⟨by rw [HE.out], rfl⟩
      case rest =>
        obtain ⟨rfl, rfl⟩ := hcut
        clear b1 b2 HKR
        have gkk : (kk : Int) < (np : Int) := by omega
        go_wp2_with fail
        go_loopw [13] (TuI ps np kk W2 ob (.slice al nl cl) (.slice an nn cn) (.int .i64 st)) (fun i _ => (intOf i + 1).toNat)
        case atStart => exact ⟨np, [], rfl, Nat.le_refl _, TuP.start ps np kk, none, 0, 0, rfl, HO, PrsO.nil _ _ _, HK3⟩
        case round =>
          obtain ⟨i, ys, rfl, hi, HM, av, n, cv, hny, HBr, HPr, HKr⟩ := hrel
          have HNY := hide1 hny
          have HLn : Hid (n = np - i) := hide1 (by rw [← hny]; exact HM.out.1)
          clear hny
          cases i with
          | zero =>
            rw [show (((0 : Nat) : Int) - 1) = -1 from rfl]
            have HSP := hide1 (HM.out.all HPS.out hkk)
            have HS0 : Hid (SameP ps ys ∧ ys.length ≤ 512) := hide1 ⟨HSP.out, by rw [HNY.out]; have := HLn.out; omega⟩
            clear HSP HM
            go_wp2_with fail
            go_loopw [14] (TwI ps n2 W2 ob (.slice al nl cl) (.slice an nn cn) (.int .i64 st)) (fun i _ => n2 - (intOf i).toNat)
            case atStart => exact ⟨0, ys, rfl, Nat.zero_le _, HS0, av, n, cv, HNY.out, HBr, HPr, HKr⟩
            case round =>
              clear HS0 HNY HLn HBr HPr HKr
              obtain ⟨i, zs, rfl, hi, HS, bv, q, dv, hnz, HBr, HPr, HKr⟩ := hrel
              have HNY := hide1 hnz
              have hq5 : q ≤ 512 := by rw [← hnz]; exact HS.out.2
              clear hnz
              obtain ⟨s0, s1, s2, s3⟩ := SBox.facts HBr.out
              have gq : (q : Int) ≤ 512 := by omega
              by_cases hlt : (i : Int) < (n2 : Int)
              · by_cases h5 : (q : Int) < 512
                · obtain ⟨x7, hx7⟩ : ∃ x7, tw[i]? = some x7 := ⟨_, List.getElem?_eq_getElem (by have := HTW.out; omega)⟩
                  have HKwr := hide1 (gtrans HKw2.out HKr.out)
                  obtain ⟨tc, to7, ea, k0⟩ := (HTI.out.keep HKwr.out).at_ hx7
                  subst ea
                  clear hx7
                  have gic : (i : Int) < (c2 : Int) := by omega
                  have h5b : (q : Int) < 512 := h5
                  obtain ⟨r, hrn, hkr⟩ := tm_round x7 np (by omega)
                  have HKR := hide1 hkr
                  have b1 := Int.tmod_lt_of_pos x7 (show (0 : Int) < (np : Int) by omega)
                  have b2 := Int.lt_tmod_of_pos x7 (show (0 : Int) < (np : Int) by omega)
                  obtain ⟨t7, ht7⟩ : ∃ t7, x7.tmod (np : Int) = t7 := ⟨_, rfl⟩
                  rw [ht7] at b1 b2 HKR
                  clear hkr
                  go_upto_if 87 with fail
                  clear ht7 k0 s0 s1 s2 s3
                  go_cut [15] from 68 to 100 (fun c wx => c = .int .i64 (r : Int) ∧ wx = wr)
                  case first =>
                    by_cases h0 : t7 < 0
                    · have HE := hide1 (HKR.out.1 h0)
                      go_wp2_with fail
                      go_meet
                      exact ⟨by rw [HE.out], rfl⟩
                    · have HE := hide1 (HKR.out.2 h0)
                      go_wp2_with fail
                      go_meet
                      exact ⟨by rw [HE.out], rfl⟩
                  case rest =>
                    obtain ⟨rfl, hwx⟩ := hcut
                    have hwx := hwx.symm
                    subst hwx
                    clear b1 b2 HKR
                    obtain ⟨p, hp⟩ : ∃ p, ps[r]? = some p := ⟨_, List.getElem?_eq_getElem (by have := HPS.out; omega)⟩
                    have HMP : Hid (SameP ps (zs ++ [p]) ∧ (zs ++ [p]).length ≤ 512) := hide1 ⟨HS.out.1.more (List.mem_of_getElem? hp), by rw [List.length_append, HNY.out]; simp; omega⟩
                    have grn : (r : Int) < (np : Int) := by omega
                    obtain ⟨cb, o2, cs, ea, hcb, hlen, hcell, v', hcs, hrt⟩ := SliceOf.el (HP.out.keep HKw2.out) hp
                    subst ea hcs
                    obtain ⟨ra, rc, hv', _⟩ := SliceOf.len hrt
                    subst hv'
                    have HC0 : Hid (W2.cell? ⟨cb, o2 + r * 2, none⟩ = some (.int .i64 p.1)) := hcell 0 _ rfl
                    have HC1 : Hid (W2.cell? ⟨cb, o2 + r * 2 + 1, none⟩ = some (.slice ra p.2.length rc)) := hcell 1 _ rfl
                    have HRT := hide1 hrt
                    have grc : (r : Int) < (cp : Int) := by omega
                    have HLn : Hid (q < 512) := hide1 (by omega)
                    clear hcell hlen hrt hp
                    go_upto_region 20 with fail
                    refine wp_region_held_drew (S := fun X => Kept W2 X) (by kernel_rfl) HKr.out (fun hHeld => ?_)
                    refine wpAnyH_take (i := 0) (v := .pointer (some ⟨ob, 3, none⟩)) rfl (by kernel_rfl) (by kernel_rfl) (by kernel_rfl) (fun _ _ _ h => h) (Or.inl ⟨by rfl, fun w' hSw => ?_⟩) (by with_reducible assumption) ?_
                    · clear hSw
                      go_simp
                    try simp only [Act.put, List.setIfInBounds_toArray, List.set_cons_zero, List.set_cons_succ]
                    refine wpAnyH_take (i := 2) (v := .pointer (some ⟨sb, 3, none⟩)) rfl (by kernel_rfl) (by kernel_rfl) (by kernel_rfl) (fun _ _ _ h => h) (Or.inl ⟨by rfl, fun w' hSw => ?_⟩) (by with_reducible assumption) ?_
                    · clear hSw
                      go_simp
                    try simp only [Act.put, List.setIfInBounds_toArray, List.set_cons_zero, List.set_cons_succ]
                    refine wpAnyH_take (i := 3) (v := .slice (some ⟨cb, o2, none⟩) np cp) rfl (by kernel_rfl) (by kernel_rfl) (by kernel_rfl) (fun _ _ _ h => h) (Or.inl ⟨by rfl, fun w' hSw => ?_⟩) (by with_reducible assumption) ?_
                    · have s0 := (HB2.out.keep hSw).facts.2.2.2
                      clear hSw
                      go_simp
                    try simp only [Act.put, List.setIfInBounds_toArray, List.set_cons_zero, List.set_cons_succ]
                    refine wpAnyH_take (i := 4) (v := .int .i64 (r : Int)) rfl (by kernel_rfl) (by kernel_rfl) (by kernel_rfl) (fun _ _ _ h => h) (Or.inl ⟨by rfl, fun w' hSw => ?_⟩) (by with_reducible assumption) ?_
                    · clear hSw
                      go_simp
                    try simp only [Act.put, List.setIfInBounds_toArray, List.set_cons_zero, List.set_cons_succ]
                    refine wpAnyH_take (i := 5) (v := .pointer (some ⟨cb, o2 + r * 2, none⟩)) rfl (by kernel_rfl) (by kernel_rfl) (by kernel_rfl) (fun _ _ _ h => h) (Or.inl ⟨by rfl, fun w' hSw => ?_⟩) (by with_reducible assumption) ?_
                    · clear hSw
                      go_simp
                    try simp only [Act.put, List.setIfInBounds_toArray, List.set_cons_zero, List.set_cons_succ]
                    refine wpAnyH_take (i := 6) (v := .agg #[.int .i64 p.1, .slice ra p.2.length rc]) rfl (by kernel_rfl) (by kernel_rfl) (by kernel_rfl) (fun _ _ _ h => h) (Or.inl ⟨by rfl, fun w' hSw => ?_⟩) (by with_reducible assumption) ?_
                    · have s0 := grown_cell hSw HC0.out
                      have s1 := grown_cell hSw HC1.out
                      clear hSw
                      go_simp
                    try simp only [Act.put, List.setIfInBounds_toArray, List.set_cons_zero, List.set_cons_succ]
                    have HKX : Hid (Kept wr (wr.alloc (.cells #[.int .i64 p.1, .slice ra p.2.length rc] 37)).drew) := hide1 (gtrans ((Kept.refl wr).alloc _ _) (drew_kept _))
                    refine wpAnyH_ready (rs := [1, 7]) (by kernel_rfl) (by simp) ?_
                    refine AllReadyH.cons (i := 1) rfl (fun K hK => ?_) (AllReadyH.cons (i := 7) rfl (fun K hK => ?_) AllReadyH.nil)
                    · have s0 : wr.drew.cell? ⟨ob, 3, none⟩ = some (.slice bv q dv) := (SBox.keep HBr.out (drew_kept wr)).facts.2.2.2
                      go_simp
                      clear s0
                      refine hK.out _ _ hHeld (fun hHeld2 => ?_)
                      clear hK K hHeld
                      have hHeld := hHeld2
                      clear hHeld2
                      try simp only [Act.put, List.setIfInBounds_toArray, List.set_cons_zero, List.set_cons_succ]
                      refine wpAnyH_ready (rs := [7]) (by kernel_rfl) (by simp) ?_
                      refine AllReadyH.cons (i := 7) rfl (fun K hK => ?_) AllReadyH.nil
                      go_simp
                      refine hK.out _ _ (gtrans HKr.out HKX.out) (fun hHeld2 => ?_)
                      clear hK K hHeld
                      have hHeld := hHeld2
                      clear hHeld2
                      try simp only [Act.put, List.setIfInBounds_toArray, List.set_cons_zero, List.set_cons_succ]
                      refine wpAnyH_ready (rs := [8]) (by kernel_rfl) (by simp) ?_
                      refine AllReadyH.cons (i := 8) rfl (fun K hK => ?_) AllReadyH.nil
                      refine step_prod rfl _ _ rfl W2 (wr.alloc (.cells #[.int .i64 p.1, .slice ra p.2.length rc] 37)).drew (ob + 1) (.slice bv q dv) zs q HNY.out rfl (HPr.out.keep HKX.out) wr.heap.size p (.slice ra p.2.length rc) rfl HRT.out rfl (heap_alloc_new wr _) (by have := HLn.out; omega) (Nat.le_trans (SBox.lt HBr.out) HKX.out.size) ?_
                      intro g9 c9 w9 ho9 hg9
                      obtain ⟨hB9, hK9⟩ := oth_grown HOB.out (SBox.keep HBr.out HKX.out) (HPr.out.keep HKX.out) (gtrans HKr.out HKX.out) hg9
                      have HO9 := hide1 (oth_put HOB.out hB9 hK9 HNY.out ho9)
                      have HB9 := hide1 hB9
                      have HK9 := hide1 hK9
                      clear ho9 hg9 hB9 hK9
                      refine hK.out _ _ HK9.out (fun hHeld2 => ?_)
                      clear hK K hHeld
                      have hHeld := hHeld2
                      clear hHeld2
                      try simp only [Act.put, List.setIfInBounds_toArray, List.set_cons_zero, List.set_cons_succ]
                      refine wpAnyH_take (i := 9) (v := .pointer (some ⟨ob, 3, none⟩)) rfl (by kernel_rfl) (by kernel_rfl) (by kernel_rfl) (fun _ _ _ h => h) (Or.inl ⟨by rfl, fun w' hSw => ?_⟩) (by with_reducible assumption) ?_
                      · clear hSw
                        go_simp
                      try simp only [Act.put, List.setIfInBounds_toArray, List.set_cons_zero, List.set_cons_succ]
                      refine wpAnyH_ready (rs := [10]) (by kernel_rfl) (by simp) ?_
                      refine AllReadyH.cons (i := 10) rfl (fun K hK => ?_) AllReadyH.nil
                      have s0 := HB9.out.facts.2.2.2
                      have z0 := SBox.free HB9.out
                      go_simp
                      clear s0 z0
                      refine hK.out _ _ (keepB HK9.out (by have := HOB.out; omega)) (fun hHeld2 => ?_)
                      clear hK K hHeld
                      have hHeld := hHeld2
                      clear hHeld2
                      try simp only [Act.put, List.setIfInBounds_toArray, List.set_cons_zero, List.set_cons_succ]
                      refine wpAnyH_done (by kernel_rfl) ?_ _
                      clear hHeld
                      generalize w9.setCell ⟨ob, 3, none⟩ (.slice (some ⟨g9, 0, none⟩) (q + 1) c9) = W9 at HO9 ⊢
                      go_wp2_with fail
                      go_roundw
                      case rel => exact ⟨i + 1, _, by go_num, by omega, HMP, HO9.out⟩
                      case measure => first | (simp [intOf]; done) | (simp [intOf]; omega)
                    · go_simp
                      refine hK.out _ _ (gtrans HKr.out HKX.out) (fun hHeld2 => ?_)
                      clear hK K hHeld
                      have hHeld := hHeld2
                      clear hHeld2
                      try simp only [Act.put, List.setIfInBounds_toArray, List.set_cons_zero, List.set_cons_succ]
                      refine wpAnyH_ready (rs := [1]) (by kernel_rfl) (by simp) ?_
                      refine AllReadyH.cons (i := 1) rfl (fun K hK => ?_) AllReadyH.nil
                      have s0 : (wr.alloc (.cells #[.int .i64 p.1, .slice ra p.2.length rc] 37)).cell? ⟨ob, 3, none⟩ = some (.slice bv q dv) := (SBox.keep HBr.out ((Kept.refl wr).alloc _ _)).facts.2.2.2
                      go_simp
                      clear s0
                      refine hK.out _ _ hHeld (fun hHeld2 => ?_)
                      clear hK K hHeld
                      have hHeld := hHeld2
                      clear hHeld2
                      try simp only [Act.put, List.setIfInBounds_toArray, List.set_cons_zero, List.set_cons_succ]
                      refine wpAnyH_ready (rs := [8]) (by kernel_rfl) (by simp) ?_
                      refine AllReadyH.cons (i := 8) rfl (fun K hK => ?_) AllReadyH.nil
                      refine step_prod rfl _ _ rfl W2 (wr.alloc (.cells #[.int .i64 p.1, .slice ra p.2.length rc] 37)).drew (ob + 1) (.slice bv q dv) zs q HNY.out rfl (HPr.out.keep HKX.out) wr.heap.size p (.slice ra p.2.length rc) rfl HRT.out rfl (heap_alloc_new wr _) (by have := HLn.out; omega) (Nat.le_trans (SBox.lt HBr.out) HKX.out.size) ?_
                      intro g9 c9 w9 ho9 hg9
                      obtain ⟨hB9, hK9⟩ := oth_grown HOB.out (SBox.keep HBr.out HKX.out) (HPr.out.keep HKX.out) (gtrans HKr.out HKX.out) hg9
                      have HO9 := hide1 (oth_put HOB.out hB9 hK9 HNY.out ho9)
                      have HB9 := hide1 hB9
                      have HK9 := hide1 hK9
                      clear ho9 hg9 hB9 hK9
                      refine hK.out _ _ HK9.out (fun hHeld2 => ?_)
                      clear hK K hHeld
                      have hHeld := hHeld2
                      clear hHeld2
                      try simp only [Act.put, List.setIfInBounds_toArray, List.set_cons_zero, List.set_cons_succ]
                      refine wpAnyH_take (i := 9) (v := .pointer (some ⟨ob, 3, none⟩)) rfl (by kernel_rfl) (by kernel_rfl) (by kernel_rfl) (fun _ _ _ h => h) (Or.inl ⟨by rfl, fun w' hSw => ?_⟩) (by with_reducible assumption) ?_
                      · clear hSw
                        go_simp
                      try simp only [Act.put, List.setIfInBounds_toArray, List.set_cons_zero, List.set_cons_succ]
                      refine wpAnyH_ready (rs := [10]) (by kernel_rfl) (by simp) ?_
                      refine AllReadyH.cons (i := 10) rfl (fun K hK => ?_) AllReadyH.nil
                      have s0 := HB9.out.facts.2.2.2
                      have z0 := SBox.free HB9.out
                      go_simp
                      clear s0 z0
                      refine hK.out _ _ (keepB HK9.out (by have := HOB.out; omega)) (fun hHeld2 => ?_)
                      clear hK K hHeld
                      have hHeld := hHeld2
                      clear hHeld2
                      try simp only [Act.put, List.setIfInBounds_toArray, List.set_cons_zero, List.set_cons_succ]
                      refine wpAnyH_done (by kernel_rfl) ?_ _
                      clear hHeld
                      generalize w9.setCell ⟨ob, 3, none⟩ (.slice (some ⟨g9, 0, none⟩) (q + 1) c9) = W9 at HO9 ⊢
                      go_wp2_with fail
                      go_roundw
                      case rel => exact ⟨i + 1, _, by go_num, by omega, HMP, HO9.out⟩
                      case measure => first | (simp [intOf]; done) | (simp [intOf]; omega)
                · go_upto_region 21 with fail
                  go_wp2_with fail
                  refine (told_is k lex zs al an bv nl cl nn cn q dv st _ HNN.out HLEN.out HNY.out (HL.out.keep (gtrans HKw2.out HKr.out)) (HPr.out.read HKr.out (by rw [HNY.out]; omega)) (HT.out.keep (gtrans HKw2.out HKr.out))).mono ?_
                  rintro e w5 ⟨x5, hq5', hk5, hor⟩
                  have hx5 : x5 = (0, 0) := checkQ_one hq5' (check_same HS.out.1 HQ0.out HS.out.2)
                  have HKx := hide1 (gtrans HKr.out hk5)
                  clear s0 s1 s2 s3 hq5' hk5
                  rcases hor with ⟨hx0, rfl⟩ | ⟨hx0, d1, d2, d3, az, m5, y5, rfl, p1, p2, p3, p4, p5⟩
                  · exact absurd (by rw [hx5]) hx0
                  · obtain ⟨hf, em, es, l2, l3, l4, he, hr, ht⟩ := told_two HS.out.1 HNN.out (nullOk_keep O12.out HKx.out) (firstOk_keep O22.out HKx.out) (followOk_keep O32.out HKx.out) (yldO_keep O42.out HKx.out) O5.out p1 p2 p3 p4 p5
                    rw [hf, HFL.out, em]
                    have HEE := hide1 he
                    have HRR := hide1 hr
                    have HTT := hide1 ht
                    clear hf em he hr ht p1 p2 p3 p4 p5 hx0 hx5
                    go_upto_region 22 with fail
                    have HA5 : Hid (Kept w5 (w5.alloc (.cells #[.slice (some ⟨d1, 0, none⟩) nn nn, .slice (some ⟨d2, 0, none⟩) nn nn, .slice (some ⟨d3, 0, none⟩) nn nn, .slice az m m, .bool fl] 31))) := (Kept.refl w5).alloc _ _
                    have HT5 : Hid (TdBox (w5.alloc (.cells #[.slice (some ⟨d1, 0, none⟩) nn nn, .slice (some ⟨d2, 0, none⟩) nn nn, .slice (some ⟨d3, 0, none⟩) nn nn, .slice az m m, .bool fl] 31)) w5.heap.size (.slice (some ⟨d1, 0, none⟩) nn nn) (.slice (some ⟨d2, 0, none⟩) nn nn) (.slice (some ⟨d3, 0, none⟩) nn nn) (.slice az m m) fl) := heap_alloc_new w5 _
                    obtain ⟨W5, hW5⟩ : ∃ W5, w5.alloc (.cells #[.slice (some ⟨d1, 0, none⟩) nn nn, .slice (some ⟨d2, 0, none⟩) nn nn, .slice (some ⟨d3, 0, none⟩) nn nn, .slice az m m, .bool fl] 31) = W5 := ⟨_, rfl⟩
                    rw [hW5] at HA5 HT5 ⊢
                    clear hW5
                    obtain ⟨ub, hub⟩ : ∃ ub, w5.heap.size = ub := ⟨_, rfl⟩
                    rw [hub] at HT5 ⊢
                    clear hub
                    have HK5 := hide1 (gtrans HKx.out HA5.out)
                    obtain ⟨t0, t1, t2, t3, t4⟩ := (TdBox.cells (TdBox.keep HTD.out HK5.out)).1
                    obtain ⟨u0, u1, u2, u3, u4⟩ := (TdBox.cells HT5.out).1
                    have HK5w := hide1 (gtrans HKw2.out HK5.out)
                    go_wp2_with (first
                      | (go_at_call 11; refine (sameTold_is _ _ _ _ _ _ _ _ nn nn nn m nn nn nn m fl es l2 l3 l4 _ HEE.out.1 HEE.out.2.1 HEE.out.2.2.1 HEE.out.2.2.2 HEE.out.1 HEE.out.2.1 HEE.out.2.2.1 HEE.out.2.2.2 (HRR.out.1.keep HA5.out) (HRR.out.2.1.keep HA5.out) (HRR.out.2.2.1.keep HA5.out) (HRR.out.2.2.2.keep HA5.out) (HTT.out.1.keep HA5.out) (HTT.out.2.1.keep HA5.out) (HTT.out.2.2.1.keep HA5.out) (HTT.out.2.2.2.keep HA5.out)).mono ?_; rintro e w6 ⟨rfl, hk6⟩; have HK6 := hide1 hk6; clear hk6)
                      | (go_at_call 10; refine (head_is7 _ (HT.out.keep (gtrans HK5w.out HK6.out))).mono ?_; rintro e w9 ⟨rfl, hk9⟩; have HK9 := hide1 hk9; clear hk9))
                    go_ret
                    exact ⟨rfl, gtrans HK5w.out (gtrans HK6.out HK9.out)⟩
              · go_upto_region 21 with fail
                go_wp2_with fail
                refine (told_is k lex zs al an bv nl cl nn cn q dv st _ HNN.out HLEN.out HNY.out (HL.out.keep (gtrans HKw2.out HKr.out)) (HPr.out.read HKr.out (by rw [HNY.out]; omega)) (HT.out.keep (gtrans HKw2.out HKr.out))).mono ?_
                rintro e w5 ⟨x5, hq5', hk5, hor⟩
                have hx5 : x5 = (0, 0) := checkQ_one hq5' (check_same HS.out.1 HQ0.out HS.out.2)
                have HKx := hide1 (gtrans HKr.out hk5)
                clear s0 s1 s2 s3 hq5' hk5
                rcases hor with ⟨hx0, rfl⟩ | ⟨hx0, d1, d2, d3, az, m5, y5, rfl, p1, p2, p3, p4, p5⟩
                · exact absurd (by rw [hx5]) hx0
                · obtain ⟨hf, em, es, l2, l3, l4, he, hr, ht⟩ := told_two HS.out.1 HNN.out (nullOk_keep O12.out HKx.out) (firstOk_keep O22.out HKx.out) (followOk_keep O32.out HKx.out) (yldO_keep O42.out HKx.out) O5.out p1 p2 p3 p4 p5
                  rw [hf, HFL.out, em]
                  have HEE := hide1 he
                  have HRR := hide1 hr
                  have HTT := hide1 ht
                  clear hf em he hr ht p1 p2 p3 p4 p5 hx0 hx5
                  go_upto_region 22 with fail
                  have HA5 : Hid (Kept w5 (w5.alloc (.cells #[.slice (some ⟨d1, 0, none⟩) nn nn, .slice (some ⟨d2, 0, none⟩) nn nn, .slice (some ⟨d3, 0, none⟩) nn nn, .slice az m m, .bool fl] 31))) := (Kept.refl w5).alloc _ _
                  have HT5 : Hid (TdBox (w5.alloc (.cells #[.slice (some ⟨d1, 0, none⟩) nn nn, .slice (some ⟨d2, 0, none⟩) nn nn, .slice (some ⟨d3, 0, none⟩) nn nn, .slice az m m, .bool fl] 31)) w5.heap.size (.slice (some ⟨d1, 0, none⟩) nn nn) (.slice (some ⟨d2, 0, none⟩) nn nn) (.slice (some ⟨d3, 0, none⟩) nn nn) (.slice az m m) fl) := heap_alloc_new w5 _
                  obtain ⟨W5, hW5⟩ : ∃ W5, w5.alloc (.cells #[.slice (some ⟨d1, 0, none⟩) nn nn, .slice (some ⟨d2, 0, none⟩) nn nn, .slice (some ⟨d3, 0, none⟩) nn nn, .slice az m m, .bool fl] 31) = W5 := ⟨_, rfl⟩
                  rw [hW5] at HA5 HT5 ⊢
                  clear hW5
                  obtain ⟨ub, hub⟩ : ∃ ub, w5.heap.size = ub := ⟨_, rfl⟩
                  rw [hub] at HT5 ⊢
                  clear hub
                  have HK5 := hide1 (gtrans HKx.out HA5.out)
                  obtain ⟨t0, t1, t2, t3, t4⟩ := (TdBox.cells (TdBox.keep HTD.out HK5.out)).1
                  obtain ⟨u0, u1, u2, u3, u4⟩ := (TdBox.cells HT5.out).1
                  have HK5w := hide1 (gtrans HKw2.out HK5.out)
                  go_wp2_with (first
                    | (go_at_call 11; refine (sameTold_is _ _ _ _ _ _ _ _ nn nn nn m nn nn nn m fl es l2 l3 l4 _ HEE.out.1 HEE.out.2.1 HEE.out.2.2.1 HEE.out.2.2.2 HEE.out.1 HEE.out.2.1 HEE.out.2.2.1 HEE.out.2.2.2 (HRR.out.1.keep HA5.out) (HRR.out.2.1.keep HA5.out) (HRR.out.2.2.1.keep HA5.out) (HRR.out.2.2.2.keep HA5.out) (HTT.out.1.keep HA5.out) (HTT.out.2.1.keep HA5.out) (HTT.out.2.2.1.keep HA5.out) (HTT.out.2.2.2.keep HA5.out)).mono ?_; rintro e w6 ⟨rfl, hk6⟩; have HK6 := hide1 hk6; clear hk6)
                    | (go_at_call 10; refine (head_is7 _ (HT.out.keep (gtrans HK5w.out HK6.out))).mono ?_; rintro e w9 ⟨rfl, hk9⟩; have HK9 := hide1 hk9; clear hk9))
                  go_ret
                  exact ⟨rfl, gtrans HK5w.out (gtrans HK6.out HK9.out)⟩
          | succ i =>
            rw [show (((i + 1 : Nat) : Int) - 1) = (i : Int) by omega]
            obtain ⟨r, hr⟩ : ∃ r, (i + kk) % np = r := ⟨_, rfl⟩
            have hrn : r < np := by rw [← hr]; exact Nat.mod_lt _ (by omega)
            obtain ⟨p, hp⟩ : ∃ p, ps[r]? = some p := ⟨_, List.getElem?_eq_getElem (by have := HPS.out; omega)⟩
            have HMP := hide1 (HM.out.step (by omega) (by rw [hr]; exact hp))
            have HMOD := hide1 (tm_sum hr)
            have HWR : Hid (IntKind.i64.wrap ((i : Int) + (kk : Int)) = (i : Int) + (kk : Int)) := hide1 (by rw [IntKind.wrap_i64]; omega)
            have gi : (i : Int) < (np : Int) := by omega
            have grn : (r : Int) < (np : Int) := by omega
            obtain ⟨cb, o2, cs, ea, hcb, hlen, hcell, v', hcs, hrt⟩ := SliceOf.el (HP.out.keep HKw2.out) hp
            subst ea hcs
            obtain ⟨ra, rc, hv', _⟩ := SliceOf.len hrt
            subst hv'
            have HC0 : Hid (W2.cell? ⟨cb, o2 + r * 2, none⟩ = some (.int .i64 p.1)) := hcell 0 _ rfl
            have HC1 : Hid (W2.cell? ⟨cb, o2 + r * 2 + 1, none⟩ = some (.slice ra p.2.length rc)) := hcell 1 _ rfl
            have HRT := hide1 hrt
            have grc : (r : Int) < (cp : Int) := by omega
            clear hcell hlen hrt hp hr
            go_upto_region 13 with fail
            refine wp_region_held_drew (S := fun X => Kept W2 X) (by kernel_rfl) HKr.out (fun hHeld => ?_)
            refine wpAnyH_take (i := 0) (v := .pointer (some ⟨ob, 3, none⟩)) rfl (by kernel_rfl) (by kernel_rfl) (by kernel_rfl) (fun _ _ _ h => h) (Or.inl ⟨by rfl, fun w' hSw => ?_⟩) (by with_reducible assumption) ?_
            · clear hSw
              go_simp
            try simp only [Act.put, List.setIfInBounds_toArray, List.set_cons_zero, List.set_cons_succ]
            refine wpAnyH_take (i := 2) (v := .pointer (some ⟨sb, 3, none⟩)) rfl (by kernel_rfl) (by kernel_rfl) (by kernel_rfl) (fun _ _ _ h => h) (Or.inl ⟨by rfl, fun w' hSw => ?_⟩) (by with_reducible assumption) ?_
            · clear hSw
              go_simp
            try simp only [Act.put, List.setIfInBounds_toArray, List.set_cons_zero, List.set_cons_succ]
            refine wpAnyH_take (i := 3) (v := .slice (some ⟨cb, o2, none⟩) np cp) rfl (by kernel_rfl) (by kernel_rfl) (by kernel_rfl) (fun _ _ _ h => h) (Or.inl ⟨by rfl, fun w' hSw => ?_⟩) (by with_reducible assumption) ?_
            · have s0 := (HB2.out.keep hSw).facts.2.2.2
              clear hSw
              go_simp
            try simp only [Act.put, List.setIfInBounds_toArray, List.set_cons_zero, List.set_cons_succ]
            refine wpAnyH_take (i := 4) (v := .int .i64 (i : Int)) rfl (by kernel_rfl) (by kernel_rfl) (by kernel_rfl) (fun _ _ _ h => h) (Or.inl ⟨by rfl, fun w' hSw => ?_⟩) (by with_reducible assumption) ?_
            · clear hSw
              go_simp
            try simp only [Act.put, List.setIfInBounds_toArray, List.set_cons_zero, List.set_cons_succ]
            refine wpAnyH_take (i := 5) (v := .int .i64 (kk : Int)) rfl (by kernel_rfl) (by kernel_rfl) (by kernel_rfl) (fun _ _ _ h => h) (Or.inl ⟨by rfl, fun w' hSw => ?_⟩) (by with_reducible assumption) ?_
            · clear hSw
              go_simp
            try simp only [Act.put, List.setIfInBounds_toArray, List.set_cons_zero, List.set_cons_succ]
            refine wpAnyH_take (i := 6) (v := .int .i64 ((i : Int) + (kk : Int))) rfl (by kernel_rfl) (by kernel_rfl) (by kernel_rfl) (fun _ _ _ h => h) (Or.inl ⟨by rfl, fun w' hSw => ?_⟩) (by with_reducible assumption) ?_
            · have s0 := HWR.out
              clear hSw
              go_simp
            try simp only [Act.put, List.setIfInBounds_toArray, List.set_cons_zero, List.set_cons_succ]
            refine wpAnyH_take (i := 7) (v := .int .i64 (np : Int)) rfl (by kernel_rfl) (by kernel_rfl) (by kernel_rfl) (fun _ _ _ h => h) (Or.inl ⟨by rfl, fun w' hSw => ?_⟩) (by with_reducible assumption) ?_
            · clear hSw
              go_simp
            try simp only [Act.put, List.setIfInBounds_toArray, List.set_cons_zero, List.set_cons_succ]
            refine wpAnyH_take (i := 8) (v := .int .i64 (r : Int)) rfl (by kernel_rfl) (by kernel_rfl) (by kernel_rfl) (fun _ _ _ h => h) (Or.inl ⟨by rfl, fun w' hSw => ?_⟩) (by with_reducible assumption) ?_
            · have s0 := HMOD.out
              clear hSw
              go_simp
            try simp only [Act.put, List.setIfInBounds_toArray, List.set_cons_zero, List.set_cons_succ]
            refine wpAnyH_take (i := 9) (v := .pointer (some ⟨cb, o2 + r * 2, none⟩)) rfl (by kernel_rfl) (by kernel_rfl) (by kernel_rfl) (fun _ _ _ h => h) (Or.inl ⟨by rfl, fun w' hSw => ?_⟩) (by with_reducible assumption) ?_
            · clear hSw
              go_simp
            try simp only [Act.put, List.setIfInBounds_toArray, List.set_cons_zero, List.set_cons_succ]
            refine wpAnyH_take (i := 10) (v := .agg #[.int .i64 p.1, .slice ra p.2.length rc]) rfl (by kernel_rfl) (by kernel_rfl) (by kernel_rfl) (fun _ _ _ h => h) (Or.inl ⟨by rfl, fun w' hSw => ?_⟩) (by with_reducible assumption) ?_
            · have s0 := grown_cell hSw HC0.out
              have s1 := grown_cell hSw HC1.out
              clear hSw
              go_simp
            try simp only [Act.put, List.setIfInBounds_toArray, List.set_cons_zero, List.set_cons_succ]
            have HKX : Hid (Kept wr (wr.alloc (.cells #[.int .i64 p.1, .slice ra p.2.length rc] 37)).drew) := hide1 (gtrans ((Kept.refl wr).alloc _ _) (drew_kept _))
            refine wpAnyH_ready (rs := [1, 11]) (by kernel_rfl) (by simp) ?_
            refine AllReadyH.cons (i := 1) rfl (fun K hK => ?_) (AllReadyH.cons (i := 11) rfl (fun K hK => ?_) AllReadyH.nil)
            · have s0 : wr.drew.cell? ⟨ob, 3, none⟩ = some (.slice av n cv) := (SBox.keep HBr.out (drew_kept wr)).facts.2.2.2
              go_simp
              clear s0
              refine hK.out _ _ hHeld (fun hHeld2 => ?_)
              clear hK K hHeld
              have hHeld := hHeld2
              clear hHeld2
              try simp only [Act.put, List.setIfInBounds_toArray, List.set_cons_zero, List.set_cons_succ]
              refine wpAnyH_ready (rs := [11]) (by kernel_rfl) (by simp) ?_
              refine AllReadyH.cons (i := 11) rfl (fun K hK => ?_) AllReadyH.nil
              go_simp
              refine hK.out _ _ (gtrans HKr.out HKX.out) (fun hHeld2 => ?_)
              clear hK K hHeld
              have hHeld := hHeld2
              clear hHeld2
              try simp only [Act.put, List.setIfInBounds_toArray, List.set_cons_zero, List.set_cons_succ]
              refine wpAnyH_ready (rs := [12]) (by kernel_rfl) (by simp) ?_
              refine AllReadyH.cons (i := 12) rfl (fun K hK => ?_) AllReadyH.nil
              refine step_prod rfl _ _ rfl W2 (wr.alloc (.cells #[.int .i64 p.1, .slice ra p.2.length rc] 37)).drew (ob + 1) (.slice av n cv) ys n HNY.out rfl (HPr.out.keep HKX.out) wr.heap.size p (.slice ra p.2.length rc) rfl HRT.out rfl (heap_alloc_new wr _) (by have := HLn.out; omega) (Nat.le_trans (SBox.lt HBr.out) HKX.out.size) ?_
              intro g9 c9 w9 ho9 hg9
              obtain ⟨hB9, hK9⟩ := oth_grown HOB.out (SBox.keep HBr.out HKX.out) (HPr.out.keep HKX.out) (gtrans HKr.out HKX.out) hg9
              have HO9 := hide1 (oth_put HOB.out hB9 hK9 HNY.out ho9)
              have HB9 := hide1 hB9
              have HK9 := hide1 hK9
              clear ho9 hg9 hB9 hK9
              refine hK.out _ _ HK9.out (fun hHeld2 => ?_)
              clear hK K hHeld
              have hHeld := hHeld2
              clear hHeld2
              try simp only [Act.put, List.setIfInBounds_toArray, List.set_cons_zero, List.set_cons_succ]
              refine wpAnyH_take (i := 13) (v := .pointer (some ⟨ob, 3, none⟩)) rfl (by kernel_rfl) (by kernel_rfl) (by kernel_rfl) (fun _ _ _ h => h) (Or.inl ⟨by rfl, fun w' hSw => ?_⟩) (by with_reducible assumption) ?_
              · clear hSw
                go_simp
              try simp only [Act.put, List.setIfInBounds_toArray, List.set_cons_zero, List.set_cons_succ]
              refine wpAnyH_ready (rs := [14]) (by kernel_rfl) (by simp) ?_
              refine AllReadyH.cons (i := 14) rfl (fun K hK => ?_) AllReadyH.nil
              have s0 := HB9.out.facts.2.2.2
              have z0 := SBox.free HB9.out
              go_simp
              clear s0 z0
              refine hK.out _ _ (keepB HK9.out (by have := HOB.out; omega)) (fun hHeld2 => ?_)
              clear hK K hHeld
              have hHeld := hHeld2
              clear hHeld2
              try simp only [Act.put, List.setIfInBounds_toArray, List.set_cons_zero, List.set_cons_succ]
              refine wpAnyH_done (by kernel_rfl) ?_ _
              clear hHeld
              generalize w9.setCell ⟨ob, 3, none⟩ (.slice (some ⟨g9, 0, none⟩) (n + 1) c9) = W9 at HO9 ⊢
              go_wp2_with fail
              go_roundw
              case rel => exact ⟨i, _, rfl, by omega, HMP, HO9.out⟩
              case measure => first | (simp [intOf]; done) | (simp [intOf]; omega)
            · go_simp
              refine hK.out _ _ (gtrans HKr.out HKX.out) (fun hHeld2 => ?_)
              clear hK K hHeld
              have hHeld := hHeld2
              clear hHeld2
              try simp only [Act.put, List.setIfInBounds_toArray, List.set_cons_zero, List.set_cons_succ]
              refine wpAnyH_ready (rs := [1]) (by kernel_rfl) (by simp) ?_
              refine AllReadyH.cons (i := 1) rfl (fun K hK => ?_) AllReadyH.nil
              have s0 : (wr.alloc (.cells #[.int .i64 p.1, .slice ra p.2.length rc] 37)).cell? ⟨ob, 3, none⟩ = some (.slice av n cv) := (SBox.keep HBr.out ((Kept.refl wr).alloc _ _)).facts.2.2.2
              go_simp
              clear s0
              refine hK.out _ _ hHeld (fun hHeld2 => ?_)
              clear hK K hHeld
              have hHeld := hHeld2
              clear hHeld2
              try simp only [Act.put, List.setIfInBounds_toArray, List.set_cons_zero, List.set_cons_succ]
              refine wpAnyH_ready (rs := [12]) (by kernel_rfl) (by simp) ?_
              refine AllReadyH.cons (i := 12) rfl (fun K hK => ?_) AllReadyH.nil
              refine step_prod rfl _ _ rfl W2 (wr.alloc (.cells #[.int .i64 p.1, .slice ra p.2.length rc] 37)).drew (ob + 1) (.slice av n cv) ys n HNY.out rfl (HPr.out.keep HKX.out) wr.heap.size p (.slice ra p.2.length rc) rfl HRT.out rfl (heap_alloc_new wr _) (by have := HLn.out; omega) (Nat.le_trans (SBox.lt HBr.out) HKX.out.size) ?_
              intro g9 c9 w9 ho9 hg9
              obtain ⟨hB9, hK9⟩ := oth_grown HOB.out (SBox.keep HBr.out HKX.out) (HPr.out.keep HKX.out) (gtrans HKr.out HKX.out) hg9
              have HO9 := hide1 (oth_put HOB.out hB9 hK9 HNY.out ho9)
              have HB9 := hide1 hB9
              have HK9 := hide1 hK9
              clear ho9 hg9 hB9 hK9
              refine hK.out _ _ HK9.out (fun hHeld2 => ?_)
              clear hK K hHeld
              have hHeld := hHeld2
              clear hHeld2
              try simp only [Act.put, List.setIfInBounds_toArray, List.set_cons_zero, List.set_cons_succ]
              refine wpAnyH_take (i := 13) (v := .pointer (some ⟨ob, 3, none⟩)) rfl (by kernel_rfl) (by kernel_rfl) (by kernel_rfl) (fun _ _ _ h => h) (Or.inl ⟨by rfl, fun w' hSw => ?_⟩) (by with_reducible assumption) ?_
              · clear hSw
                go_simp
              try simp only [Act.put, List.setIfInBounds_toArray, List.set_cons_zero, List.set_cons_succ]
              refine wpAnyH_ready (rs := [14]) (by kernel_rfl) (by simp) ?_
              refine AllReadyH.cons (i := 14) rfl (fun K hK => ?_) AllReadyH.nil
              have s0 := HB9.out.facts.2.2.2
              have z0 := SBox.free HB9.out
              go_simp
              clear s0 z0
              refine hK.out _ _ (keepB HK9.out (by have := HOB.out; omega)) (fun hHeld2 => ?_)
              clear hK K hHeld
              have hHeld := hHeld2
              clear hHeld2
              try simp only [Act.put, List.setIfInBounds_toArray, List.set_cons_zero, List.set_cons_succ]
              refine wpAnyH_done (by kernel_rfl) ?_ _
              clear hHeld
              generalize w9.setCell ⟨ob, 3, none⟩ (.slice (some ⟨g9, 0, none⟩) (n + 1) c9) = W9 at HO9 ⊢
              go_wp2_with fail
              go_roundw
              case rel => exact ⟨i, _, rfl, by omega, HMP, HO9.out⟩
              case measure => first | (simp [intOf]; done) | (simp [intOf]; omega)

end Ex
end Go.Proofs.YthnbmkapmnpkoaaDoor
