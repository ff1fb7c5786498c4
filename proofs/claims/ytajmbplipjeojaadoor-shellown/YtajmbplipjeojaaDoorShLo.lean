import Derived.Test.YtajmbplipjeojaaDoorShLo1
import Derived.Deep.Cut
import Derived.Deep.RegionHeld3
namespace Go.Proofs.YtajmbplipjeojaaDoor
open Go.RowKit
attribute [local go_sem] Oper.semAt_some
namespace Ex
namespace Sh

set_option linter.unusedSimpArgs false in
set_option maxRecDepth 100000 in
set_option maxHeartbeats 8000000 in
theorem lawOwn (a : Option Addr) (N c : Nat) (Ts : List ByteArray) (w : World) (hE : EsAt w) (hR : StrsIn w (.slice a N c) Ts) :
    Calls Tryd.prog 6 #[.slice a N c] w fun e w' => e = .returned (.bool true) ∧ Kept w w' := by
  have HE := hide1 hE
  obtain ⟨hl, hNc, hNb, HTZ, HAT⟩ : Ts.length = N ∧ N ≤ c ∧ N ≤ 17592186044416 ∧ Hid (∀ T ∈ Ts, T.size ≤ 200000000000000) ∧ Hid (∀ (i : Nat) (T : ByteArray), Ts[i]? = some T → ∃ g o, a = some ⟨g, o, none⟩ ∧ w.cell? ⟨g, o + i, none⟩ = some (.string T)) := by
    obtain ⟨a', cap, e, h1, h2, h3, h4⟩ := hR
    simp only [Value.slice.injEq] at e
    obtain ⟨rfl, rfl, rfl⟩ := e
    refine ⟨rfl, h1, h2, h3, fun i T hT => ?_⟩
    rcases h4 with rfl | ⟨g, o, rfl, _, h5⟩
    · cases hT
    · exact ⟨g, o, rfl, h5 i T hT⟩
  have HL := hide1 hl
  have hNI : (N : Int) ≤ 17592186044416 := by omega
  have hNcI : (N : Int) ≤ (c : Int) := by omega
  have HAB : Hid (Calls Tryd.prog 8 #[.string ⟨#[97, 32, 34, 98, 34]⟩] w fun e w' => ∃ g c0, e = .returned (.tuple #[.slice (some ⟨g, 0, none⟩) 2 c0, .int .i64 0]) ∧ 2 ≤ c0 ∧ w'.cell? ⟨g, 0, none⟩ = some (.string ⟨#[97]⟩) ∧ w'.cell? ⟨g, 1, none⟩ = some (.string ⟨#[98]⟩) ∧ LO strE w' w.heap.size (.slice (some ⟨g, 0, none⟩) 2 c0) [⟨#[97]⟩, ⟨#[98]⟩] ∧ Kept w w') :=
    (words_is ⟨#[97, 32, 34, 98, 34]⟩ w hE (by show 5 ≤ _; omega)).mono fun e w' h => by
      obtain ⟨⟨a1, n1, c1⟩, h1, h2, _, h4⟩ := wordsO_of h
      rw [ans_ab.1] at h2
      rw [ans_ab.2] at h1
      have h20 : LO strE w' w.heap.size (.slice a1 n1 c1) [⟨#[97]⟩, ⟨#[98]⟩] := h2
      have hn := lo_lens h20
      obtain ⟨g, rfl⟩ := h20.some (by simp)
      have hc := h20.cap
      obtain rfl : n1 = 2 := hn.symm
      exact ⟨g, c1, h1, hc, h20.cell (i := 0) (j := 0) rfl rfl, h20.cell (i := 1) (j := 0) rfl rfl, h20, h4⟩
  clear hE hR hl
  go_enter Tryd.func6, Tryd.ntmps6
  go_upto_region 2 with (go_at_call 8; refine (HAB.out).mono ?_; rintro e w1 ⟨gh, ch, rfl, hch, hx0, hx1, hlo1, hk1⟩; have HLO1 := hide1 hlo1; have HK1 := hide1 hk1; clear hlo1 hk1)
  have hchI : (2 : Int) ≤ (ch : Int) := by omega
  have HKP := hide1 (kp_first (x := (some ⟨gh, 0, none⟩, 2, ch)) HLO1.out (by show 2 ≤ 65537; omega) HK1.out)
  go_upto_region 5 with fail
  obtain ⟨wA, hwA⟩ : ∃ wA, w1.alloc (.cells #[.slice (some ⟨gh, 0, none⟩) 2 ch] 25) = wA := ⟨_, rfl⟩
  obtain ⟨ga, hga⟩ : ∃ ga, w1.heap.size = ga := ⟨_, rfl⟩
  simp only at HKP
  rw [hwA] at HKP ⊢
  try rw [hga]
  rw [hga] at HKP
  clear hwA hga hx0 hx1 hch hchI
  go_wp2_with fail
  go_loopw [5, 7] (fun v i wr => ∃ (j m kc : Nat) (ka : Option Addr) (xs : List SlV) (C : Nat → List ByteArray), v = .slice ka m kc ∧ i = .int .i64 (j : Int) ∧ j ≤ N ∧ j ≤ 4096 ∧ m = 1 + 2 * j ∧ Hid (xs.length = m) ∧ Hid (KpS w wr (.slice ka m kc) xs C)) (fun _ i _ => N - (intOf i).toNat)
  case atStart => exact ⟨0, 1, 1, some ⟨ga, 0, none⟩, [(some ⟨gh, 0, none⟩, 2, ch)], _, rfl, rfl, Nat.zero_le _, by omega, rfl, hide1 rfl, HKP⟩
  case round =>
    clear HKP
    obtain ⟨j, m, kc, ka, xs, C, rfl, rfl, hj, hj2, hm, HX, HKP⟩ := hrel
    have HM := hide1 hm
    have hmb : m ≤ 8193 := by omega
    have hm1 : 1 ≤ m := by omega
    clear hm
    by_cases hlt : j < N ∧ j < 4096
    · obtain ⟨hlt1, hlt2⟩ := hlt
      have hltI : (j : Int) < (N : Int) := by omega
      have hlt2I : (j : Int) < 4096 := by omega
      have hjc : (j : Int) < (c : Int) := by omega
      obtain ⟨T, hT⟩ : ∃ T, Ts[j]? = some T := ⟨_, List.getElem?_eq_getElem (by have := HL.out; omega)⟩
      obtain ⟨g, o, ea, k1⟩ := HAT.out j T hT
      subst ea
      have HCELL : Hid (∀ W, Kept w W → W.cell? ⟨g, o + j, none⟩ = some (.string T)) := fun W hk => grown_cell hk k1
      have hTz : T.size ≤ 281474976710656 := by have := HTZ.out T (List.mem_of_getElem? hT); omega
      obtain ⟨L, hL⟩ : ∃ L, ansL T = L := ⟨_, rfl⟩
      obtain ⟨x, hx⟩ : ∃ x, ansE T = x := ⟨_, rfl⟩
      have HW : Hid (∀ w1, Kept w w1 → Calls Tryd.prog 8 #[.string T] w1 fun e w' => ∃ a1 n1 c1, e = .returned (.tuple #[.slice a1 n1 c1, .int .i64 x]) ∧ LO strE w' w1.heap.size (val (a1, n1, c1)) L ∧ L.length ≤ 65537 ∧ Kept w1 w') := fun w1 hk =>
        (words_is T w1 (HE.out.keep hk) hTz).mono fun e w' h => by
          obtain ⟨⟨a1, n1, c1⟩, h1, h2, h3, h4⟩ := wordsO_of h
          rw [hL] at h2 h3
          rw [hx] at h1
          exact ⟨a1, n1, c1, h1, h2, h3, h4⟩
      have HD : Hid (∀ w1, Calls Tryd.prog 10 #[.string T] w1 fun e w' => ∃ a1 n1 c1, e = .returned (.tuple #[.slice a1 n1 c1, .int .i64 x]) ∧ LO strE w' w1.heap.size (val (a1, n1, c1)) L ∧ L.length ≤ 65537 ∧ Kept w1 w') := fun w1 =>
        (dWords_is T w1 hTz).mono fun e w' h => by
          obtain ⟨⟨a1, n1, c1⟩, h1, h2, h3, h4⟩ := wordsO_of h
          rw [hL] at h2 h3
          rw [hx] at h1
          exact ⟨a1, n1, c1, h1, h2, h3, h4⟩
      have hxx : (x != x) = false := by simp
      have c1 := HCELL.out wr HKP.out.kept
      clear hT k1 hL hx
      go_upto_region 10 with (go_at_call 8; refine (HW.out wr HKP.out.kept).mono ?_; rintro e w2 ⟨a1, n1, c1', rfl, hl1, hn1, hk2⟩; have HL1 := hide1 hl1; have HN1 := hide1 hn1; have HK2 := hide1 hk2; clear hl1 hn1 hk2)
      clear c1
      have c1 := HCELL.out w2 (gtrans HKP.out.kept HK2.out)
      go_upto_region 11 with (go_at_call 8; refine (HW.out w2 (gtrans HKP.out.kept HK2.out)).mono ?_; rintro e w3 ⟨a2, n2, c2', rfl, hl2, hn2, hk3⟩; have HL2 := hide1 hl2; have HN2 := hide1 hn2; have HK3 := hide1 hk3; clear hl2 hn2 hk3)
      clear c1
      have c1 := HCELL.out w3 (gtrans HKP.out.kept (gtrans HK2.out HK3.out))
      go_upto_region 12 with (go_at_call 10; refine (HD.out w3).mono ?_; rintro e w4 ⟨a3, n3, c3', rfl, hl3, hn3, hk4⟩; have HL3 := hide1 hl3; have HK4 := hide1 hk4; clear hl3 hn3 hk4)
      clear c1
      have HS1 := hide1 (StrR.of (HL1.out.keep (gtrans HK3.out HK4.out)))
      have HS2 := hide1 (StrR.of (HL2.out.keep HK4.out))
      have HS3 := hide1 (StrR.of HL3.out)
      go_upto_region 14 with (first
        | (have _g := HG1; clear _g; go_at_call 11; refine (same_is _ _ L.length L w5 (HS2.out.keep HK5.out) (HS3.out.keep HK5.out) (by have := HN1.out; omega)).mono ?_; rintro e w6 ⟨rfl, hk6⟩; have HK6 := hide1 hk6; clear hk6)
        | (go_at_call 11; refine (same_is _ _ L.length L w4 HS1.out HS3.out (by have := HN1.out; omega)).mono ?_; rintro e w5 ⟨rfl, hk5⟩; have HK5 := hide1 hk5; have HG1 := hide1 trivial; clear hk5))
      have HKW := hide1 (gtrans HK2.out (gtrans HK3.out (gtrans HK4.out (gtrans HK5.out HK6.out))))
      have HKP6 := hide1 (HKP.out.keep HKW.out)
      have HL16 := hide1 (HL1.out.keep (gtrans HK3.out (gtrans HK4.out (gtrans HK5.out HK6.out))))
      have HL26 := hide1 (HL2.out.keep (gtrans HK4.out (gtrans HK5.out HK6.out)))
      have hwr : w.heap.size ≤ wr.heap.size := HKP.out.kept.size
      have hw6 : w.heap.size ≤ w6.heap.size := HKP6.out.kept.size
      go_upto_region 15 with (at_builtin; go_must (refine wpl_lo (E := slE) rfl _ _ rfl w.heap.size (.slice ka m kc) xs m HX.out (by rfl) (HKP6.out.all.keep ((Kept.refl w6).alloc _ _)) w6.heap.size (a1, n1, c1') (by rfl) (heap_alloc_new w6 _) (by show (m + 1) * 24 ≤ 140737488355328; omega) (by unfold maxLen; omega) (Nat.le_trans hw6 ((Kept.refl w6).alloc _ _).size) ?_); intro g7 c7 w7 ho7 hg7 hor7 hlt7; have HP7 := hide1 (kp_push HKP6.out HL16.out hwr (HKP.out.lt) HN1.out ((Kept.refl w6).alloc _ _) ho7 hg7); have HG7 := hide1 hg7; clear ho7 hg7 hor7 hlt7)
      have HX7 : Hid ((xs ++ [(a1, n1, c1')]).length = m + 1) := by show _ = _; rw [List.length_append, HX.out]; rfl
      have HL27 : Hid (LO strE w7 w2.heap.size (val (a2, n2, c2')) L) := (HL26.out.keep ((Kept.refl w6).alloc #[.slice a1 n1 c1'] 25)).same (fun d hd => HG7.out.block d ((HL26.out.keep ((Kept.refl w6).alloc #[.slice a1 n1 c1'] 25)).lt' d hd).2 (fun e => lo_ne (HL26.out.keep ((Kept.refl w6).alloc #[.slice a1 n1 c1'] 25)) (HKP6.out.all.keep ((Kept.refl w6).alloc #[.slice a1 n1 c1'] 25)) str_ne_sl hd e.symm))
      have HNEW : Hid (∀ (u : Nat) (y : SlV) (d : Nat), (xs ++ [(a1, n1, c1')])[u]? = some y → (val y).ownBlock = some d → d < w2.heap.size) := fun u y d hy hd => by
        by_cases hu : u < xs.length
        · rw [List.getElem?_append_left hu] at hy
          exact Nat.lt_of_lt_of_le (HKP.out.lt u y d hy hd) HK2.out.size
        · rw [List.getElem?_append_right (by omega)] at hy
          have h1 : u - xs.length < 1 := by have := (List.getElem?_eq_some_iff.1 hy).1; simpa using this
          have h2 : u - xs.length = 0 := by omega
          rw [h2] at hy
          have h3 : y = (a1, n1, c1') := by simpa using hy.symm
          subst h3
          exact (HL1.out.lt' d hd).2
      have hw7 : w.heap.size ≤ w7.heap.size := HP7.out.kept.size
      have hw2 : w.heap.size ≤ w2.heap.size := Nat.le_trans hwr HK2.out.size
      go_wp2_with (at_builtin; go_must (refine wpl_lo (E := slE) rfl _ _ rfl w.heap.size (.slice (some ⟨g7, 0, none⟩) (m + 1) c7) (xs ++ [(a1, n1, c1')]) (m + 1) HX7.out (by rfl) (HP7.out.all.keep ((Kept.refl w7).alloc _ _)) w7.heap.size (a2, n2, c2') (by rfl) (heap_alloc_new w7 _) (by show (m + 1 + 1) * 24 ≤ 140737488355328; omega) (by unfold maxLen; omega) (Nat.le_trans hw7 ((Kept.refl w7).alloc _ _).size) ?_); intro g8 c8 w8 ho8 hg8 hor8 hlt8; have HP8 := hide1 (kp_push HP7.out HL27.out hw2 HNEW.out HN2.out ((Kept.refl w7).alloc _ _) ho8 hg8); clear ho8 hg8 hor8 hlt8)
      go_roundw
      case rel => exact ⟨j + 1, m + 1 + 1, c8, some ⟨g8, 0, none⟩, _, _, by first | rfl | trivial, by go_num, by omega, by omega, by have := HM.out; omega, hide1 (by rw [List.length_append, HX7.out]; rfl), HP8⟩
      case measure => simp [intOf]; omega
    · have hng : ¬ ((j : Int) < (N : Int) ∧ (j : Int) < 4096) := by omega
      obtain ⟨g0, rfl⟩ := HKP.out.all.some (by intro e; have := HX.out; rw [e] at this; simp at this; omega)
      by_cases hlt1 : (j : Int) < (N : Int)
      · have hlt2 : ¬ (j : Int) < 4096 := by omega
        obtain ⟨wk, hwk⟩ : ∃ wk, wk = wr := ⟨_, rfl⟩
        subst hwk
        have HB := hide1 HKP.out.bag
        have HLO := hide1 HKP.out.lone
        have HLEN := hide1 HKP.out.len
        have hT : (strE).T ≠ (slE).T := by decide
        have HC : Hid (∀ w', KT (InB xs) wk w' → ∀ (u : Nat) (x : SlV), xs[u]? = some x → w'.cell? ⟨g0, u, none⟩ = some (.slice x.1 x.2.1 x.2.2)) := fun w' hk u x hx => by
          have h1 : LO slE w' w.heap.size (.slice (some ⟨g0, 0, none⟩) m kc) xs := HKP.out.all.same (fun d hd => hk.2.2.2.2 d (HKP.out.all.lt' d hd).2 (fun e => by
            obtain ⟨v, z, hz, hzd⟩ := e
            exact lo_ne (HKP.out.bag v z hz) HKP.out.all hT hzd hd))
          obtain ⟨g, e, h2⟩ := lo_sl h1 rfl rfl hx
          injection e with e
          injection e with e
          rw [e]
          exact h2
        have HOLD : Hid (∀ (v : Nat) (z : SlV) (d : Nat), xs[v]? = some z → (val z).ownBlock = some d → d < wk.heap.size) := fun v z d hz hd => HKP.out.lt v z d hz hd
        have HKF : Hid (∀ w', KT (InB xs) wk w' → Kept w w') := fun w' hk => ⟨hk.1.trans HKP.out.kept.1, hk.2.1.trans HKP.out.kept.2.1, hk.2.2.1.trans HKP.out.kept.2.2.1, Nat.le_trans HKP.out.kept.size hk.2.2.2.1, fun d hd => (hk.2.2.2.2 d (Nat.lt_of_lt_of_le hd HKP.out.kept.size) (fun e => by
          obtain ⟨v, z, hz, hzd⟩ := e
          have := HKP.out.old v z d hz hzd
          omega)).trans (HKP.out.kept.2.2.2.2 d hd)⟩
        have gm : (m : Int) ≤ 8193 := by omega
        have hmc : m ≤ kc := by have h1 := HKP.out.all.cap; have := HX.out; omega
        have gmc : (m : Int) ≤ (kc : Int) := by omega
        have HMS : Hid (∀ t : Nat, t ≤ 8193 → (mkS t).size ≤ 8194 ∧ ∀ w1, Calls Tryd.prog 12 #[.int .i64 (t : Int)] w1 fun e w' => e = .returned (.string (mkS t)) ∧ Kept w1 w') := fun t ht => ⟨by have := mkS_size t; omega, fun w1 => marked_is t (by omega) w1⟩
        clear HKP
        go_wp2_with fail
        go_loopw [14] (fun i wr => ∃ (t : Nat) (C : Nat → List ByteArray), i = .int .i64 (t : Int) ∧ t ≤ m ∧ Hid (BagL strE wr xs C) ∧ Hid (Mrk mrkS xs C t 0) ∧ Hid (KT (InB xs) wk wr)) (fun i _ => m - (intOf i).toNat)
        case atStart => exact ⟨0, C, rfl, by omega, HB, fun t b n ht hs h => by omega, (Kept.refl wk).kt _⟩
        case round =>
          obtain ⟨t, C, rfl, ht, hB, hF, hK⟩ := hrel
          clear HB
          by_cases hlt : (t : Int) < (m : Int)
          · obtain ⟨⟨xa, n, cx⟩, hit⟩ : ∃ it, xs[t]? = some it := ⟨_, List.getElem?_eq_getElem (by have := HX.out; omega)⟩
            have HIT := hide1 hit
            have hn4 : n ≤ 65537 := HLEN.out t _ hit
            have gn : (n : Int) ≤ 65537 := by omega
            obtain ⟨hms0, hmk0⟩ := HMS.out t (by omega)
            obtain ⟨mt, hmt⟩ : ∃ mt, mkS t = mt := ⟨_, rfl⟩
            rw [hmt] at hms0 hmk0
            have HMK := hide1 hmk0
            have HKS : Hid (mrkS t 0 = ⟨#[107, 101, 112, 116, 32]⟩ ++ mt) := by show kS t = _; unfold kS; rw [hmt]
            clear hit hmk0 hmt
            go_wp2_with (go_at_call 12; refine (HMK.out _).mono ?_; rintro e w5 ⟨rfl, hk5⟩; have HK5 := hide1 hk5; clear hk5)
            have hB5 := hide1 (hB.out.kept HK5.out)
            have hK5 := hide1 (hK.out.trans (HK5.out.kt _))
            clear hB hK HK5
            go_loopw [16] (fun i wr => ∃ (s : Nat) (C : Nat → List ByteArray), i = .int .i64 (s : Int) ∧ s ≤ n ∧ Hid (BagL strE wr xs C) ∧ Hid (Mrk mrkS xs C t s) ∧ Hid (KT (InB xs) wk wr)) (fun i _ => n - (intOf i).toNat)
            case atStart => exact ⟨0, C, rfl, by omega, hB5, hF, hK5⟩
            case round =>
              clear hB5 hF hK5
              obtain ⟨s, C, rfl, hs, hB, hF, hK⟩ := hrel
              have hcell := HC.out wr hK.out t _ HIT.out
              dsimp only at hcell
              by_cases hlt2 : (s : Int) < (n : Int)
              · have hsn : s < n := by omega
                have hlo : LO strE wr 0 (.slice xa n cx) (C t) := hB.out t _ HIT.out
                have hll := lo_lens hlo
                obtain ⟨g, hxa⟩ := hlo.some (by intro e; rw [e] at hll; simp at hll; omega)
                subst hxa
                have hcp : n ≤ cx := by have := hlo.cap; omega
                obtain ⟨⟨u0, e0⟩, z0⟩ := lo_set0 hlo hsn 0 (by decide)
                have es : s * strE.sz + 0 = s := by show s * 1 + 0 = s; omega
                have es2 : s * strE.sz = s := by show s * 1 = s; omega
                rw [es] at e0 z0
                have HB5 : Hid (BagL strE (wr.setCell ⟨g, s, none⟩ (.string (⟨#[107, 101, 112, 116, 32]⟩ ++ mt))) xs (updF C t ((C t).set s (mrkS t s)))) := by
                  have h := hB.out.put HLO.out HIT.out hsn (mrkS t s)
                  rw [es2] at h
                  have e3 : putL wr g s (strE.enc (mrkS t s)) = wr.setCell ⟨g, s, none⟩ (.string (⟨#[107, 101, 112, 116, 32]⟩ ++ mt)) := by
                    rw [show mrkS t s = ⟨#[107, 101, 112, 116, 32]⟩ ++ mt from HKS.out]
                    rfl
                  rw [e3] at h
                  exact h
                have HF5 : Hid (Mrk mrkS xs (updF C t ((C t).set s (mrkS t s))) t (s + 1)) := hF.out.put HIT.out (by omega)
                have HK5 : Hid (KT (InB xs) wk (wr.setCell ⟨g, s, none⟩ (.string (⟨#[107, 101, 112, 116, 32]⟩ ++ mt)))) := hK.out.trans ((set_kt wr g s _).mono (fun k e => by rw [e]; exact ⟨t, _, HIT.out, rfl⟩))
                have hjc : (s : Int) < (cx : Int) := by omega
                clear hlo hll hB hF hK hcp hsn es es2
                go_wp2_with fail
                go_roundw
                case rel => exact ⟨s + 1, _, by go_num, by omega, HB5, HF5, HK5⟩
                case measure => simp [intOf]; omega
              · go_wp2_with fail
                go_roundw
                case rel => exact ⟨t + 1, C, by go_num, by omega, hB, (hF.out.next (fun x h' => by have h9 := HIT.out; rw [h'] at h9; have h8 := Option.some.inj h9; subst h8; show n = s; omega)), hK⟩
                case measure => simp [intOf]; omega
          · obtain rfl : t = m := by omega
            clear hlt ht
            have HSTART : Hid (Gr2 strE slE mrkS apS xs wk wr (.slice none 0 0) [] C (fun _ => [])) := ⟨hB.out, by rw [HX.out]; exact hF.out, hK.out, LO.nil _ _, fun u x hx => by simp at hx, fun u x y hx => by simp at hx, fun u x y d hx => by simp at hx, fun u u' x x' d hx => by simp at hx⟩
            clear hB hF hK
            go_wp2_with fail
            go_loopw [6, 17] (fun mv i wr => ∃ (u : Nat) (ls : List SlV) (C D : Nat → List ByteArray) (aM : Option Addr) (cM : Nat), mv = .slice aM u cM ∧ i = .int .i64 (u : Int) ∧ u ≤ t ∧ Hid (ls.length = u) ∧ Hid (Gr2 strE slE mrkS apS xs wk wr (.slice aM u cM) ls C D)) (fun _ i _ => t - (intOf i).toNat)
            case atStart => exact ⟨0, [], C, fun _ => [], none, 0, rfl, rfl, by omega, rfl, HSTART.out⟩
            case round =>
              clear HSTART
              obtain ⟨u, ls, C, D, aM, cM, rfl, rfl, hu, hxl, hS⟩ := hrel
              by_cases hlt : (u : Int) < (t : Int)
              · obtain ⟨⟨ya, n, cx⟩, hit⟩ : ∃ it, xs[u]? = some it := ⟨_, List.getElem?_eq_getElem (by have := HX.out; omega)⟩
                have HIT := hide1 hit
                have hcell := HC.out wr hS.out.kb u _ hit
                dsimp only at hcell
                have hn4 : n ≤ 65537 := HLEN.out u _ hit
                have gn : (n : Int) ≤ 65537 := by omega
                have hukc : (u : Int) < (kc : Int) := by omega
                obtain ⟨hms0, hmk0⟩ := HMS.out u (by omega)
                obtain ⟨mt, hmt⟩ : ∃ mt, mkS u = mt := ⟨_, rfl⟩
                rw [hmt] at hms0 hmk0
                have HMK := hide1 hmk0
                have HAP : Hid (apS u 0 = ⟨#[109, 111, 114, 101, 32]⟩ ++ mt) := by show moS u = _; unfold moS; rw [hmt]
                have HCU : Hid (Cu strE mrkS apS wk wr ls u 0 (ya, n, cx) (ya, n + 0, cx) (C u)) := ⟨hS.out.bag u _ hit, rfl, fun s hs => hS.out.mr u _ s hit hs (Or.inl (by have := HX.out; omega)), fun s hs => by omega, Or.inl ⟨rfl, rfl⟩⟩
                have HCL : Hid ((C u).length = n) := lo_lens (show LO strE wr 0 (.slice ya n cx) (C u) from hS.out.bag u _ hit)
                have HLO0 : Hid (LO strE wr 0 (.slice ya n cx) (C u)) := hS.out.bag u _ hit
                clear hit hmk0 hmt
                go_upto_region 27 with fail
                refine wp_region_held_drew (S := fun w' => w'.cell? ⟨g0, u, none⟩ = some (.slice ya n cx)) (by kernel_rfl) hcell (fun hHeld => ?_)
                refine wpAnyH_take (i := 0) (v := .slice (some ⟨g0, 0, none⟩) t kc) rfl (by kernel_rfl) (by kernel_rfl) (by kernel_rfl) (fun _ _ _ h => h) (Or.inl ⟨by rfl, fun w' hSw => ?_⟩) (by with_reducible assumption) ?_
                · clear hSw
                  go_simp
                try simp only [Act.put, List.getElem_toArray, List.getElem_cons_succ, List.getElem_cons_zero, List.setIfInBounds_toArray, List.set_cons_zero, List.set_cons_succ]
                refine wpAnyH_take (i := 1) (v := .int .i64 (u : Int)) rfl (by kernel_rfl) (by kernel_rfl) (by kernel_rfl) (fun _ _ _ h => h) (Or.inl ⟨by rfl, fun w' hSw => ?_⟩) (by with_reducible assumption) ?_
                · clear hSw
                  go_simp
                try simp only [Act.put, List.getElem_toArray, List.getElem_cons_succ, List.getElem_cons_zero, List.setIfInBounds_toArray, List.set_cons_zero, List.set_cons_succ]
                refine wpAnyH_take (i := 2) (v := .pointer (some ⟨g0, u, none⟩)) rfl (by kernel_rfl) (by kernel_rfl) (by kernel_rfl) (fun _ _ _ h => h) (Or.inl ⟨by rfl, fun w' hSw => ?_⟩) (by with_reducible assumption) ?_
                · clear hSw
                  go_simp
                try simp only [Act.put, List.getElem_toArray, List.getElem_cons_succ, List.getElem_cons_zero, List.setIfInBounds_toArray, List.set_cons_zero, List.set_cons_succ]
                refine wpAnyH_take (i := 3) (v := .slice ya n cx) rfl (by kernel_rfl) (by kernel_rfl) (by kernel_rfl) (fun _ _ _ h => h) (Or.inl ⟨by rfl, fun w' hSw => ?_⟩) (by with_reducible assumption) ?_
                · have t1 := hSw
                  go_simp
                try simp only [Act.put, List.getElem_toArray, List.getElem_cons_succ, List.getElem_cons_zero, List.setIfInBounds_toArray, List.set_cons_zero, List.set_cons_succ]
                refine wpAnyH_take (i := 4) (v := .int .i64 (u : Int)) rfl (by kernel_rfl) (by kernel_rfl) (by kernel_rfl) (fun _ _ _ h => h) (Or.inl ⟨by rfl, fun w' hSw => ?_⟩) (by with_reducible assumption) ?_
                · clear hSw
                  go_simp
                try simp only [Act.put, List.getElem_toArray, List.getElem_cons_succ, List.getElem_cons_zero, List.setIfInBounds_toArray, List.set_cons_zero, List.set_cons_succ]
                refine wpAnyH_ready (rs := [5]) (by kernel_rfl) (by simp) ?_
                refine AllReadyH.cons (i := 5) rfl (fun K hK => ?_) AllReadyH.nil
                go_simp
                refine (HMK.out _).mono ?_
                rintro e w5 ⟨rfl, hk5⟩
                have HK50 : Hid (Kept wr w5) := gtrans (drew_kept wr) hk5
                have hc50 := grown_cell HK50.out hcell
                clear hk5
                refine hK.out _ _ (hc50) (fun hHeldN => ?_)
                clear hK K
                try simp only [Act.put, List.getElem_toArray, List.getElem_cons_succ, List.getElem_cons_zero, List.setIfInBounds_toArray, List.set_cons_zero, List.set_cons_succ]
                refine wpAnyH_take (i := 6) (v := .string (⟨#[109, 111, 114, 101, 32]⟩ ++ mt)) rfl (by kernel_rfl) (by kernel_rfl) (by kernel_rfl) (fun _ _ _ h => h) (Or.inl ⟨by rfl, fun w' hSw => ?_⟩) (by with_reducible assumption) ?_
                · clear hSw
                  have hadd : ¬ 9223372036854775807 < 5 + mt.size := by omega
                  go_simp
                try simp only [Act.put, List.getElem_toArray, List.getElem_cons_succ, List.getElem_cons_zero, List.setIfInBounds_toArray, List.set_cons_zero, List.set_cons_succ]
                refine wpAnyH_ready (rs := [7]) (by kernel_rfl) (by simp) ?_
                refine AllReadyH.cons (i := 7) rfl (fun K hK => ?_) AllReadyH.nil
                go_simp
                refine hK.out _ _ (grown_cell ((Kept.refl w5).alloc _ _) hc50) (fun hHeldN => ?_)
                clear hK K
                try simp only [Act.put, List.getElem_toArray, List.getElem_cons_succ, List.getElem_cons_zero, List.setIfInBounds_toArray, List.set_cons_zero, List.set_cons_succ]
                refine wpAnyH_ready (rs := [8]) (by kernel_rfl) (by simp) ?_
                refine AllReadyH.cons (i := 8) rfl (fun K hK => ?_) AllReadyH.nil
                refine step_lo2 (E := strE) (by decide) rfl _ _ rfl 0 (.slice ya n cx) (C u) n HCL.out (by rfl) (HLO0.out.keep (HK50.out.alloc _ _)) w5.heap.size (⟨#[109, 111, 114, 101, 32]⟩ ++ mt) (by rfl) (heap_alloc_new w5 _) (by omega) (Nat.zero_le _) ?_
                intro g6 c6 w6 ho6 ha6 hg6
                obtain ⟨C', hs', hc'⟩ := gr_step (j := 0) (g := g6) (cap := c6) hT hS.out HCU.out HIT.out hxl.out HLO.out HOLD.out (HK50.out.alloc #[.string (⟨#[109, 111, 114, 101, 32]⟩ ++ mt)] 9) (by rw [show apS u 0 = ⟨#[109, 111, 114, 101, 32]⟩ ++ mt from HAP.out]; exact ho6) ha6 hg6
                have hS6 := HC.out w6 hs'.kb u _ HIT.out
                dsimp only at hS6
                have HS' := hide1 hs'
                have HC' : Hid (Cu strE mrkS apS wk w6 ls u (0 + 1) (ya, n, cx) (some ⟨g6, 0, none⟩, n + (0 + 1), c6) (C u ++ [apS u 0])) := hc'
                clear hs' hc' ho6 ha6 hg6
                refine hK.out _ _ (hS6) (fun hHeldN => ?_)
                clear hK K
                try simp only [Act.put, List.getElem_toArray, List.getElem_cons_succ, List.getElem_cons_zero, List.setIfInBounds_toArray, List.set_cons_zero, List.set_cons_succ]
                refine wpAnyH_take (i := 9) (v := .slice (some ⟨g6, 0, none⟩) (n + 1) c6) rfl (by kernel_rfl) (by kernel_rfl) (by kernel_rfl) (fun _ _ _ h => h) (Or.inl ⟨by rfl, fun w' hSw => ?_⟩) (by with_reducible assumption) ?_
                · clear hSw
                  go_simp
                try simp only [Act.put, List.getElem_toArray, List.getElem_cons_succ, List.getElem_cons_zero, List.setIfInBounds_toArray, List.set_cons_zero, List.set_cons_succ]
                refine wpAnyH_done (by kernel_rfl) ?_ _
                clear hHeldN hS6 hc50 hcell
                go_wp2_with fail
                go_loopw [18, 19] (fun g i wr => ∃ (s : Nat) (C : Nat → List ByteArray) (xa : Option Addr) (xc : Nat) (G : List ByteArray), g = .slice xa (n + (s + 1)) xc ∧ i = .int .i64 (s : Int) ∧ s ≤ 70 ∧ Hid (Gr2 strE slE mrkS apS xs wk wr (.slice aM u cM) ls C D) ∧ Hid (Cu strE mrkS apS wk wr ls u (s + 1) (ya, n, cx) (xa, n + (s + 1), xc) G)) (fun _ i _ => 70 - (intOf i).toNat)
                case atStart => exact ⟨0, C', some ⟨g6, 0, none⟩, c6, _, rfl, rfl, by omega, HS', HC'⟩
                case round =>
                  clear hS HS' HC' HCU
                  obtain ⟨s, C, xa, xc, G, rfl, rfl, hs, hS, hC⟩ := hrel
                  have HGL : Hid (G.length = n + (s + 1)) := lo_lens (show LO strE wr 0 (.slice xa (n + (s + 1)) xc) G from hC.out.lo)
                  by_cases hlt3 : (s : Int) < 70
                  · obtain ⟨ns, hns⟩ : ∃ ns, n + (s + 1) = ns := ⟨_, rfl⟩
                    have HNS := hide1 hns
                    have hCG : Hid (LO strE wr 0 (.slice xa ns xc) G) := by rw [← hns]; exact hC.out.lo
                    rw [hns] at HGL ⊢
                    have hnsb : ns ≤ 65700 := by omega
                    clear hns
                    go_wp2_with (first
                      | (go_at_call 12; refine (HMK.out _).mono ?_; rintro e w5 ⟨rfl, hk5⟩; have HK5 := hide1 hk5; clear hk5)
                      | (at_builtin; go_must (refine wpl_lo2 (E := strE) (by decide) rfl _ _ rfl 0 (.slice xa ns xc) G ns HGL.out (by rfl) (hCG.out.keep (HK5.out.alloc _ _)) w5.heap.size (⟨#[109, 111, 114, 101, 32]⟩ ++ mt) (by rfl) (heap_alloc_new w5 _) (by omega) (Nat.zero_le _) ?_); intro g7 c7 w7 ho7 ha7 hg7; have hstep := hide1 (gr_step (j := s + 1) (g := g7) (cap := c7) hT hS.out hC.out HIT.out hxl.out HLO.out HOLD.out (HK5.out.alloc #[.string (⟨#[109, 111, 114, 101, 32]⟩ ++ mt)] 9) (by rw [show apS u (s + 1) = ⟨#[109, 111, 114, 101, 32]⟩ ++ mt from HAP.out]; have h9 := ho7; rw [← HNS.out] at h9; exact h9) (by have h9 := ha7; rw [← HNS.out] at h9; exact h9) hg7); clear ho7 ha7 hg7))
                    obtain ⟨C', hs', hc'⟩ := hstep.out
                    have HS' := hide1 hs'
                    have HC' := hide1 hc'
                    clear hs' hc' hstep
                    go_roundw
                    case rel => exact ⟨s + 1, C', some ⟨g7, 0, none⟩, c7, _, by rw [← HNS.out]; rfl, by go_num, by omega, HS', HC'⟩
                    case measure => simp [intOf]; omega
                  · obtain rfl : s = 70 := by omega
                    clear hs hlt3
                    have hsz0 := hS.out.kb.2.2.2.1
                    obtain ⟨ns, hns⟩ : ∃ ns, n + (70 + 1) = ns := ⟨_, rfl⟩
                    have HNS := hide1 hns
                    rw [hns]
                    clear hns
                    go_wp2_with (at_builtin; go_must (refine wpl_lo (E := slE) rfl _ _ rfl wk.heap.size (.slice aM u cM) ls u hxl.out (by rfl) (LO.keep hS.out.gl ((Kept.refl wr).alloc _ _)) wr.heap.size (xa, ns, xc) (by rfl) (heap_alloc_new wr _) (by show (u + 1) * 24 ≤ 140737488355328; omega) (by unfold maxLen; omega) (Nat.le_trans hsz0 ((Kept.refl wr).alloc _ _).size) ?_); intro g7 c7 w7 ho7 hg7 hor7 hlt7; have hstep := hide1 (gr_push (x := (xa, n + (70 + 1), xc)) hT hS.out hC.out HIT.out hxl.out HLO.out HOLD.out ((Kept.refl wr).alloc #[.slice xa ns xc] 25) (by rw [HNS.out]; exact ho7) hg7); clear ho7 hg7 hor7 hlt7)
                    go_roundw
                    case rel => exact ⟨u + 1, ls ++ [(xa, n + (70 + 1), xc)], C, updF D u G, some ⟨g7, 0, none⟩, c7, rfl, by go_num, by omega, hide1 (by rw [List.length_append, hxl.out]; rfl), hstep⟩
                    case measure => simp [intOf]; omega
              · obtain rfl : u = t := by omega
                clear hlt hu
                have HP := hide1 (fun (v : Nat) (hv : v < u) => gr_rows hS.out hxl.out HX.out rfl rfl v hv)
                have HK := hide1 hS.out.kb
                have HUC : Hid (u ≤ cM) := (by have h1 := hS.out.gl.cap; have := hxl.out; omega : u ≤ cM)
                clear hS
                obtain ⟨wb, hwb⟩ : ∃ x, x = wr := ⟨_, rfl⟩
                subst hwb
                go_wp2_with fail
                go_loopw [20] (fun i wx => ∃ v : Nat, i = .int .i64 (v : Int) ∧ v ≤ u ∧ Hid (Kept wb wx)) (fun i _ => u - (intOf i).toNat)
                case atStart => exact ⟨0, rfl, by omega, Kept.refl _⟩
                case round =>
                  obtain ⟨v, rfl, hv, hk⟩ := hrel
                  by_cases hlt : (v : Int) < (u : Int)
                  · obtain ⟨⟨ya, n, cy⟩, ⟨xa, n7, xc⟩, gM, hy, h71, hcy, hcx, rfl, hcM, hr1, hr2⟩ := HP.out v (by omega)
                    dsimp only at h71 hcy hcx hcM hr1 hr2
                    have h71I : (n7 : Int) = (n : Int) + 71 := by omega
                    have HN7 := hide1 h71
                    have q1 := kcell (HC.out _ HK.out v _ hy)
                    dsimp only at q1
                    have q2 := kcell hcM
                    have hcyI : (n : Int) ≤ (cy : Int) := by omega
                    have hcxI : (n7 : Int) ≤ (xc : Int) := by omega
                    have hn4 : n ≤ 65537 := HLEN.out v _ hy
                    have gn : (n : Int) ≤ 65537 := by omega
                    have hvkc : (v : Int) < (kc : Int) := by omega
                    have HCM : Hid (u ≤ cM) := HUC.out
                    have hvcM : (v : Int) < (cM : Int) := by have := HCM.out; omega
                    obtain ⟨hms0, hmk0⟩ := HMS.out v (by omega)
                    obtain ⟨mt, hmt⟩ : ∃ mt, mkS v = mt := ⟨_, rfl⟩
                    rw [hmt] at hms0 hmk0
                    have HMK := hide1 hmk0
                    have HR1 : Hid (∀ s, s < n → ∃ gy gx, ya = some ⟨gy, 0, none⟩ ∧ xa = some ⟨gx, 0, none⟩ ∧ wb.cell? ⟨gy, s, none⟩ = some (.string (⟨#[107, 101, 112, 116, 32]⟩ ++ mt)) ∧ wb.cell? ⟨gx, s, none⟩ = some (.string (⟨#[107, 101, 112, 116, 32]⟩ ++ mt))) := fun s hs => by
                      obtain ⟨gy, gx, e1, e2, r3⟩ := hr1 s hs
                      have r4 := r3 0 (.string (⟨#[107, 101, 112, 116, 32]⟩ ++ mt)) (by show some (Value.string (kS v)) = _; unfold kS; rw [hmt])
                      rw [show s * strE.sz + 0 = s by show s * 1 + 0 = s; omega] at r4
                      exact ⟨gy, gx, e1, e2, r4⟩
                    have HR2 : Hid (∀ s, n ≤ s → s < n7 → ∃ gx, xa = some ⟨gx, 0, none⟩ ∧ wb.cell? ⟨gx, s, none⟩ = some (.string (⟨#[109, 111, 114, 101, 32]⟩ ++ mt))) := fun s hs hs2 => by
                      obtain ⟨gx, e2, r3⟩ := hr2 (s - n) (by omega)
                      have r4 := r3 0 (.string (⟨#[109, 111, 114, 101, 32]⟩ ++ mt)) (by show some (Value.string (moS v)) = _; unfold moS; rw [hmt])
                      rw [show (n + (s - n)) * strE.sz + 0 = s by show (n + (s - n)) * 1 + 0 = s; omega] at r4
                      exact ⟨gx, e2, r4⟩
                    clear hy hcM hr1 hr2 h71 hmk0 hmt
                    have d1 := q1 _ hk.out
                    go_wp2_with fail
                    clear d1
                    go_loopw [22] (fun i wx => ∃ s : Nat, i = .int .i64 (s : Int) ∧ s ≤ n7 ∧ Hid (Kept wb wx)) (fun i _ => n7 - (intOf i).toNat)
                    case atStart => exact ⟨0, rfl, by omega, hk⟩
                    case round =>
                      clear hk
                      obtain ⟨s, rfl, hs, hk⟩ := hrel
                      have d2 := q2 _ hk.out
                      by_cases hlt2 : (s : Int) < (n7 : Int)
                      · have hsx : (s : Int) < (xc : Int) := by omega
                        by_cases hsn : (s : Int) < (n : Int)
                        · have hsy : (s : Int) < (cy : Int) := by omega
                          have hge : ¬ (n : Int) ≤ (s : Int) := by omega
                          obtain ⟨gy, gx, rfl, rfl, a0, b0⟩ := HR1.out s (by omega)
                          have d1 := q1 _ hk.out
                          have ka := keeps (grown_cell hk.out a0)
                          have kb := keeps (grown_cell hk.out b0)
                          have kd1 := keeps d1
                          have kd2 := keeps d2
                          have hadd : ¬ 9223372036854775807 < 5 + mt.size := by omega
                          clear a0 b0
                          go_upto_region 40 with fail
                          go_region_held3 (fun w' => Kept wr w') (first | assumption | exact Kept.refl _ | exact drew_kept _) ((go_at_call 12; refine (HMK.out _).mono ?_; rintro e w5 ⟨rfl, hk5⟩; have k5 : Kept wr w5 := gtrans (by first | assumption | exact Kept.refl _ | exact drew_kept _) hk5))
                          have HK5 := hide1 (gtrans hk.out k5)
                          clear ka kb kd1 kd2 d1 d2
                          go_upto_region 42 with fail
                          have hgef : decide (n ≤ s) = false := decide_eq_false (by omega)
                          go_quiet (fail)
                          go_wp2_with fail
                          go_roundw
                          case rel => exact ⟨s + 1, by go_num, by omega, by first | exact gtrans HK5.out (drewN_kept _ _) | exact HK5.out | exact gtrans HK5.out (drew_kept _)⟩
                          case measure => simp [intOf]; omega
                        · obtain ⟨gx, rfl, b0⟩ := HR2.out s (by omega) (by omega)
                          have hge : (n : Int) ≤ (s : Int) := by omega
                          have hadd : ¬ 9223372036854775807 < 5 + mt.size := by omega
                          go_upto_region 40 with fail
                          go_quiet (fail)
                          have HKQ : Hid (Kept wb (wr.drewN nq)) := gtrans hk.out (drewN_kept _ _)
                          obtain ⟨wz, hwz⟩ : ∃ wz, wr.drewN nq = wz := ⟨_, rfl⟩
                          rw [hwz] at HKQ ⊢
                          clear hwz d2
                          have d2 := q2 _ HKQ.out
                          have kb := keeps (grown_cell HKQ.out b0)
                          have kd2 := keeps d2
                          clear b0
                          go_upto_region 42 with fail
                          go_region_held3 (fun w' => Kept wz w') (first | assumption | exact Kept.refl _ | exact drew_kept _) ((go_at_call 12; refine (HMK.out _).mono ?_; rintro e w5 ⟨rfl, hk5⟩; have k5 : Kept wz w5 := gtrans (by first | assumption | exact Kept.refl _ | exact drew_kept _) hk5))
                          have HK5 := hide1 (gtrans HKQ.out k5)
                          clear kb kd2 d2
                          go_wp2_with fail
                          go_roundw
                          case rel => exact ⟨s + 1, by go_num, by omega, HK5.out⟩
                          case measure => simp [intOf]; omega
                      · go_wp2_with fail
                        go_roundw
                        case rel => exact ⟨v + 1, by go_num, by omega, hk⟩
                        case measure => simp [intOf]; omega
                  · go_wp2_with fail
                    go_ret
                    exact ⟨rfl, gtrans (HKF.out _ HK.out) hk.out⟩
      · clear hng
        obtain ⟨wk, hwk⟩ : ∃ wk, wk = wr := ⟨_, rfl⟩
        subst hwk
        have HB := hide1 HKP.out.bag
        have HLO := hide1 HKP.out.lone
        have HLEN := hide1 HKP.out.len
        have hT : (strE).T ≠ (slE).T := by decide
        have HC : Hid (∀ w', KT (InB xs) wk w' → ∀ (u : Nat) (x : SlV), xs[u]? = some x → w'.cell? ⟨g0, u, none⟩ = some (.slice x.1 x.2.1 x.2.2)) := fun w' hk u x hx => by
          have h1 : LO slE w' w.heap.size (.slice (some ⟨g0, 0, none⟩) m kc) xs := HKP.out.all.same (fun d hd => hk.2.2.2.2 d (HKP.out.all.lt' d hd).2 (fun e => by
            obtain ⟨v, z, hz, hzd⟩ := e
            exact lo_ne (HKP.out.bag v z hz) HKP.out.all hT hzd hd))
          obtain ⟨g, e, h2⟩ := lo_sl h1 rfl rfl hx
          injection e with e
          injection e with e
          rw [e]
          exact h2
        have HOLD : Hid (∀ (v : Nat) (z : SlV) (d : Nat), xs[v]? = some z → (val z).ownBlock = some d → d < wk.heap.size) := fun v z d hz hd => HKP.out.lt v z d hz hd
        have HKF : Hid (∀ w', KT (InB xs) wk w' → Kept w w') := fun w' hk => ⟨hk.1.trans HKP.out.kept.1, hk.2.1.trans HKP.out.kept.2.1, hk.2.2.1.trans HKP.out.kept.2.2.1, Nat.le_trans HKP.out.kept.size hk.2.2.2.1, fun d hd => (hk.2.2.2.2 d (Nat.lt_of_lt_of_le hd HKP.out.kept.size) (fun e => by
          obtain ⟨v, z, hz, hzd⟩ := e
          have := HKP.out.old v z d hz hzd
          omega)).trans (HKP.out.kept.2.2.2.2 d hd)⟩
        have gm : (m : Int) ≤ 8193 := by omega
        have hmc : m ≤ kc := by have h1 := HKP.out.all.cap; have := HX.out; omega
        have gmc : (m : Int) ≤ (kc : Int) := by omega
        have HMS : Hid (∀ t : Nat, t ≤ 8193 → (mkS t).size ≤ 8194 ∧ ∀ w1, Calls Tryd.prog 12 #[.int .i64 (t : Int)] w1 fun e w' => e = .returned (.string (mkS t)) ∧ Kept w1 w') := fun t ht => ⟨by have := mkS_size t; omega, fun w1 => marked_is t (by omega) w1⟩
        clear HKP
        go_wp2_with fail
        go_loopw [14] (fun i wr => ∃ (t : Nat) (C : Nat → List ByteArray), i = .int .i64 (t : Int) ∧ t ≤ m ∧ Hid (BagL strE wr xs C) ∧ Hid (Mrk mrkS xs C t 0) ∧ Hid (KT (InB xs) wk wr)) (fun i _ => m - (intOf i).toNat)
        case atStart => exact ⟨0, C, rfl, by omega, HB, fun t b n ht hs h => by omega, (Kept.refl wk).kt _⟩
        case round =>
          obtain ⟨t, C, rfl, ht, hB, hF, hK⟩ := hrel
          clear HB
          by_cases hlt : (t : Int) < (m : Int)
          · obtain ⟨⟨xa, n, cx⟩, hit⟩ : ∃ it, xs[t]? = some it := ⟨_, List.getElem?_eq_getElem (by have := HX.out; omega)⟩
            have HIT := hide1 hit
            have hn4 : n ≤ 65537 := HLEN.out t _ hit
            have gn : (n : Int) ≤ 65537 := by omega
            obtain ⟨hms0, hmk0⟩ := HMS.out t (by omega)
            obtain ⟨mt, hmt⟩ : ∃ mt, mkS t = mt := ⟨_, rfl⟩
            rw [hmt] at hms0 hmk0
            have HMK := hide1 hmk0
            have HKS : Hid (mrkS t 0 = ⟨#[107, 101, 112, 116, 32]⟩ ++ mt) := by show kS t = _; unfold kS; rw [hmt]
            clear hit hmk0 hmt
            go_wp2_with (go_at_call 12; refine (HMK.out _).mono ?_; rintro e w5 ⟨rfl, hk5⟩; have HK5 := hide1 hk5; clear hk5)
            have hB5 := hide1 (hB.out.kept HK5.out)
            have hK5 := hide1 (hK.out.trans (HK5.out.kt _))
            clear hB hK HK5
            go_loopw [16] (fun i wr => ∃ (s : Nat) (C : Nat → List ByteArray), i = .int .i64 (s : Int) ∧ s ≤ n ∧ Hid (BagL strE wr xs C) ∧ Hid (Mrk mrkS xs C t s) ∧ Hid (KT (InB xs) wk wr)) (fun i _ => n - (intOf i).toNat)
            case atStart => exact ⟨0, C, rfl, by omega, hB5, hF, hK5⟩
            case round =>
              clear hB5 hF hK5
              obtain ⟨s, C, rfl, hs, hB, hF, hK⟩ := hrel
              have hcell := HC.out wr hK.out t _ HIT.out
              dsimp only at hcell
              by_cases hlt2 : (s : Int) < (n : Int)
              · have hsn : s < n := by omega
                have hlo : LO strE wr 0 (.slice xa n cx) (C t) := hB.out t _ HIT.out
                have hll := lo_lens hlo
                obtain ⟨g, hxa⟩ := hlo.some (by intro e; rw [e] at hll; simp at hll; omega)
                subst hxa
                have hcp : n ≤ cx := by have := hlo.cap; omega
                obtain ⟨⟨u0, e0⟩, z0⟩ := lo_set0 hlo hsn 0 (by decide)
                have es : s * strE.sz + 0 = s := by show s * 1 + 0 = s; omega
                have es2 : s * strE.sz = s := by show s * 1 = s; omega
                rw [es] at e0 z0
                have HB5 : Hid (BagL strE (wr.setCell ⟨g, s, none⟩ (.string (⟨#[107, 101, 112, 116, 32]⟩ ++ mt))) xs (updF C t ((C t).set s (mrkS t s)))) := by
                  have h := hB.out.put HLO.out HIT.out hsn (mrkS t s)
                  rw [es2] at h
                  have e3 : putL wr g s (strE.enc (mrkS t s)) = wr.setCell ⟨g, s, none⟩ (.string (⟨#[107, 101, 112, 116, 32]⟩ ++ mt)) := by
                    rw [show mrkS t s = ⟨#[107, 101, 112, 116, 32]⟩ ++ mt from HKS.out]
                    rfl
                  rw [e3] at h
                  exact h
                have HF5 : Hid (Mrk mrkS xs (updF C t ((C t).set s (mrkS t s))) t (s + 1)) := hF.out.put HIT.out (by omega)
                have HK5 : Hid (KT (InB xs) wk (wr.setCell ⟨g, s, none⟩ (.string (⟨#[107, 101, 112, 116, 32]⟩ ++ mt)))) := hK.out.trans ((set_kt wr g s _).mono (fun k e => by rw [e]; exact ⟨t, _, HIT.out, rfl⟩))
                have hjc : (s : Int) < (cx : Int) := by omega
                clear hlo hll hB hF hK hcp hsn es es2
                go_wp2_with fail
                go_roundw
                case rel => exact ⟨s + 1, _, by go_num, by omega, HB5, HF5, HK5⟩
                case measure => simp [intOf]; omega
              · go_wp2_with fail
                go_roundw
                case rel => exact ⟨t + 1, C, by go_num, by omega, hB, (hF.out.next (fun x h' => by have h9 := HIT.out; rw [h'] at h9; have h8 := Option.some.inj h9; subst h8; show n = s; omega)), hK⟩
                case measure => simp [intOf]; omega
          · obtain rfl : t = m := by omega
            clear hlt ht
            have HSTART : Hid (Gr2 strE slE mrkS apS xs wk wr (.slice none 0 0) [] C (fun _ => [])) := ⟨hB.out, by rw [HX.out]; exact hF.out, hK.out, LO.nil _ _, fun u x hx => by simp at hx, fun u x y hx => by simp at hx, fun u x y d hx => by simp at hx, fun u u' x x' d hx => by simp at hx⟩
            clear hB hF hK
            go_wp2_with fail
            go_loopw [6, 17] (fun mv i wr => ∃ (u : Nat) (ls : List SlV) (C D : Nat → List ByteArray) (aM : Option Addr) (cM : Nat), mv = .slice aM u cM ∧ i = .int .i64 (u : Int) ∧ u ≤ t ∧ Hid (ls.length = u) ∧ Hid (Gr2 strE slE mrkS apS xs wk wr (.slice aM u cM) ls C D)) (fun _ i _ => t - (intOf i).toNat)
            case atStart => exact ⟨0, [], C, fun _ => [], none, 0, rfl, rfl, by omega, rfl, HSTART.out⟩
            case round =>
              clear HSTART
              obtain ⟨u, ls, C, D, aM, cM, rfl, rfl, hu, hxl, hS⟩ := hrel
              by_cases hlt : (u : Int) < (t : Int)
              · obtain ⟨⟨ya, n, cx⟩, hit⟩ : ∃ it, xs[u]? = some it := ⟨_, List.getElem?_eq_getElem (by have := HX.out; omega)⟩
                have HIT := hide1 hit
                have hcell := HC.out wr hS.out.kb u _ hit
                dsimp only at hcell
                have hn4 : n ≤ 65537 := HLEN.out u _ hit
                have gn : (n : Int) ≤ 65537 := by omega
                have hukc : (u : Int) < (kc : Int) := by omega
                obtain ⟨hms0, hmk0⟩ := HMS.out u (by omega)
                obtain ⟨mt, hmt⟩ : ∃ mt, mkS u = mt := ⟨_, rfl⟩
                rw [hmt] at hms0 hmk0
                have HMK := hide1 hmk0
                have HAP : Hid (apS u 0 = ⟨#[109, 111, 114, 101, 32]⟩ ++ mt) := by show moS u = _; unfold moS; rw [hmt]
                have HCU : Hid (Cu strE mrkS apS wk wr ls u 0 (ya, n, cx) (ya, n + 0, cx) (C u)) := ⟨hS.out.bag u _ hit, rfl, fun s hs => hS.out.mr u _ s hit hs (Or.inl (by have := HX.out; omega)), fun s hs => by omega, Or.inl ⟨rfl, rfl⟩⟩
                have HCL : Hid ((C u).length = n) := lo_lens (show LO strE wr 0 (.slice ya n cx) (C u) from hS.out.bag u _ hit)
                have HLO0 : Hid (LO strE wr 0 (.slice ya n cx) (C u)) := hS.out.bag u _ hit
                clear hit hmk0 hmt
                go_upto_region 27 with fail
                refine wp_region_held_drew (S := fun w' => w'.cell? ⟨g0, u, none⟩ = some (.slice ya n cx)) (by kernel_rfl) hcell (fun hHeld => ?_)
                refine wpAnyH_take (i := 0) (v := .slice (some ⟨g0, 0, none⟩) t kc) rfl (by kernel_rfl) (by kernel_rfl) (by kernel_rfl) (fun _ _ _ h => h) (Or.inl ⟨by rfl, fun w' hSw => ?_⟩) (by with_reducible assumption) ?_
                · clear hSw
                  go_simp
                try simp only [Act.put, List.getElem_toArray, List.getElem_cons_succ, List.getElem_cons_zero, List.setIfInBounds_toArray, List.set_cons_zero, List.set_cons_succ]
                refine wpAnyH_take (i := 1) (v := .int .i64 (u : Int)) rfl (by kernel_rfl) (by kernel_rfl) (by kernel_rfl) (fun _ _ _ h => h) (Or.inl ⟨by rfl, fun w' hSw => ?_⟩) (by with_reducible assumption) ?_
                · clear hSw
                  go_simp
                try simp only [Act.put, List.getElem_toArray, List.getElem_cons_succ, List.getElem_cons_zero, List.setIfInBounds_toArray, List.set_cons_zero, List.set_cons_succ]
                refine wpAnyH_take (i := 2) (v := .pointer (some ⟨g0, u, none⟩)) rfl (by kernel_rfl) (by kernel_rfl) (by kernel_rfl) (fun _ _ _ h => h) (Or.inl ⟨by rfl, fun w' hSw => ?_⟩) (by with_reducible assumption) ?_
                · clear hSw
                  go_simp
                try simp only [Act.put, List.getElem_toArray, List.getElem_cons_succ, List.getElem_cons_zero, List.setIfInBounds_toArray, List.set_cons_zero, List.set_cons_succ]
                refine wpAnyH_take (i := 3) (v := .slice ya n cx) rfl (by kernel_rfl) (by kernel_rfl) (by kernel_rfl) (fun _ _ _ h => h) (Or.inl ⟨by rfl, fun w' hSw => ?_⟩) (by with_reducible assumption) ?_
                · have t1 := hSw
                  go_simp
                try simp only [Act.put, List.getElem_toArray, List.getElem_cons_succ, List.getElem_cons_zero, List.setIfInBounds_toArray, List.set_cons_zero, List.set_cons_succ]
                refine wpAnyH_take (i := 4) (v := .int .i64 (u : Int)) rfl (by kernel_rfl) (by kernel_rfl) (by kernel_rfl) (fun _ _ _ h => h) (Or.inl ⟨by rfl, fun w' hSw => ?_⟩) (by with_reducible assumption) ?_
                · clear hSw
                  go_simp
                try simp only [Act.put, List.getElem_toArray, List.getElem_cons_succ, List.getElem_cons_zero, List.setIfInBounds_toArray, List.set_cons_zero, List.set_cons_succ]
                refine wpAnyH_ready (rs := [5]) (by kernel_rfl) (by simp) ?_
                refine AllReadyH.cons (i := 5) rfl (fun K hK => ?_) AllReadyH.nil
                go_simp
                refine (HMK.out _).mono ?_
                rintro e w5 ⟨rfl, hk5⟩
                have HK50 : Hid (Kept wr w5) := gtrans (drew_kept wr) hk5
                have hc50 := grown_cell HK50.out hcell
                clear hk5
                refine hK.out _ _ (hc50) (fun hHeldN => ?_)
                clear hK K
                try simp only [Act.put, List.getElem_toArray, List.getElem_cons_succ, List.getElem_cons_zero, List.setIfInBounds_toArray, List.set_cons_zero, List.set_cons_succ]
                refine wpAnyH_take (i := 6) (v := .string (⟨#[109, 111, 114, 101, 32]⟩ ++ mt)) rfl (by kernel_rfl) (by kernel_rfl) (by kernel_rfl) (fun _ _ _ h => h) (Or.inl ⟨by rfl, fun w' hSw => ?_⟩) (by with_reducible assumption) ?_
                · clear hSw
                  have hadd : ¬ 9223372036854775807 < 5 + mt.size := by omega
                  go_simp
                try simp only [Act.put, List.getElem_toArray, List.getElem_cons_succ, List.getElem_cons_zero, List.setIfInBounds_toArray, List.set_cons_zero, List.set_cons_succ]
                refine wpAnyH_ready (rs := [7]) (by kernel_rfl) (by simp) ?_
                refine AllReadyH.cons (i := 7) rfl (fun K hK => ?_) AllReadyH.nil
                go_simp
                refine hK.out _ _ (grown_cell ((Kept.refl w5).alloc _ _) hc50) (fun hHeldN => ?_)
                clear hK K
                try simp only [Act.put, List.getElem_toArray, List.getElem_cons_succ, List.getElem_cons_zero, List.setIfInBounds_toArray, List.set_cons_zero, List.set_cons_succ]
                refine wpAnyH_ready (rs := [8]) (by kernel_rfl) (by simp) ?_
                refine AllReadyH.cons (i := 8) rfl (fun K hK => ?_) AllReadyH.nil
                refine step_lo2 (E := strE) (by decide) rfl _ _ rfl 0 (.slice ya n cx) (C u) n HCL.out (by rfl) (HLO0.out.keep (HK50.out.alloc _ _)) w5.heap.size (⟨#[109, 111, 114, 101, 32]⟩ ++ mt) (by rfl) (heap_alloc_new w5 _) (by omega) (Nat.zero_le _) ?_
                intro g6 c6 w6 ho6 ha6 hg6
                obtain ⟨C', hs', hc'⟩ := gr_step (j := 0) (g := g6) (cap := c6) hT hS.out HCU.out HIT.out hxl.out HLO.out HOLD.out (HK50.out.alloc #[.string (⟨#[109, 111, 114, 101, 32]⟩ ++ mt)] 9) (by rw [show apS u 0 = ⟨#[109, 111, 114, 101, 32]⟩ ++ mt from HAP.out]; exact ho6) ha6 hg6
                have hS6 := HC.out w6 hs'.kb u _ HIT.out
                dsimp only at hS6
                have HS' := hide1 hs'
                have HC' : Hid (Cu strE mrkS apS wk w6 ls u (0 + 1) (ya, n, cx) (some ⟨g6, 0, none⟩, n + (0 + 1), c6) (C u ++ [apS u 0])) := hc'
                clear hs' hc' ho6 ha6 hg6
                refine hK.out _ _ (hS6) (fun hHeldN => ?_)
                clear hK K
                try simp only [Act.put, List.getElem_toArray, List.getElem_cons_succ, List.getElem_cons_zero, List.setIfInBounds_toArray, List.set_cons_zero, List.set_cons_succ]
                refine wpAnyH_take (i := 9) (v := .slice (some ⟨g6, 0, none⟩) (n + 1) c6) rfl (by kernel_rfl) (by kernel_rfl) (by kernel_rfl) (fun _ _ _ h => h) (Or.inl ⟨by rfl, fun w' hSw => ?_⟩) (by with_reducible assumption) ?_
                · clear hSw
                  go_simp
                try simp only [Act.put, List.getElem_toArray, List.getElem_cons_succ, List.getElem_cons_zero, List.setIfInBounds_toArray, List.set_cons_zero, List.set_cons_succ]
                refine wpAnyH_done (by kernel_rfl) ?_ _
                clear hHeldN hS6 hc50 hcell
                go_wp2_with fail
                go_loopw [18, 19] (fun g i wr => ∃ (s : Nat) (C : Nat → List ByteArray) (xa : Option Addr) (xc : Nat) (G : List ByteArray), g = .slice xa (n + (s + 1)) xc ∧ i = .int .i64 (s : Int) ∧ s ≤ 70 ∧ Hid (Gr2 strE slE mrkS apS xs wk wr (.slice aM u cM) ls C D) ∧ Hid (Cu strE mrkS apS wk wr ls u (s + 1) (ya, n, cx) (xa, n + (s + 1), xc) G)) (fun _ i _ => 70 - (intOf i).toNat)
                case atStart => exact ⟨0, C', some ⟨g6, 0, none⟩, c6, _, rfl, rfl, by omega, HS', HC'⟩
                case round =>
                  clear hS HS' HC' HCU
                  obtain ⟨s, C, xa, xc, G, rfl, rfl, hs, hS, hC⟩ := hrel
                  have HGL : Hid (G.length = n + (s + 1)) := lo_lens (show LO strE wr 0 (.slice xa (n + (s + 1)) xc) G from hC.out.lo)
                  by_cases hlt3 : (s : Int) < 70
                  · obtain ⟨ns, hns⟩ : ∃ ns, n + (s + 1) = ns := ⟨_, rfl⟩
                    have HNS := hide1 hns
                    have hCG : Hid (LO strE wr 0 (.slice xa ns xc) G) := by rw [← hns]; exact hC.out.lo
                    rw [hns] at HGL ⊢
                    have hnsb : ns ≤ 65700 := by omega
                    clear hns
                    go_wp2_with (first
                      | (go_at_call 12; refine (HMK.out _).mono ?_; rintro e w5 ⟨rfl, hk5⟩; have HK5 := hide1 hk5; clear hk5)
                      | (at_builtin; go_must (refine wpl_lo2 (E := strE) (by decide) rfl _ _ rfl 0 (.slice xa ns xc) G ns HGL.out (by rfl) (hCG.out.keep (HK5.out.alloc _ _)) w5.heap.size (⟨#[109, 111, 114, 101, 32]⟩ ++ mt) (by rfl) (heap_alloc_new w5 _) (by omega) (Nat.zero_le _) ?_); intro g7 c7 w7 ho7 ha7 hg7; have hstep := hide1 (gr_step (j := s + 1) (g := g7) (cap := c7) hT hS.out hC.out HIT.out hxl.out HLO.out HOLD.out (HK5.out.alloc #[.string (⟨#[109, 111, 114, 101, 32]⟩ ++ mt)] 9) (by rw [show apS u (s + 1) = ⟨#[109, 111, 114, 101, 32]⟩ ++ mt from HAP.out]; have h9 := ho7; rw [← HNS.out] at h9; exact h9) (by have h9 := ha7; rw [← HNS.out] at h9; exact h9) hg7); clear ho7 ha7 hg7))
                    obtain ⟨C', hs', hc'⟩ := hstep.out
                    have HS' := hide1 hs'
                    have HC' := hide1 hc'
                    clear hs' hc' hstep
                    go_roundw
                    case rel => exact ⟨s + 1, C', some ⟨g7, 0, none⟩, c7, _, by rw [← HNS.out]; rfl, by go_num, by omega, HS', HC'⟩
                    case measure => simp [intOf]; omega
                  · obtain rfl : s = 70 := by omega
                    clear hs hlt3
                    have hsz0 := hS.out.kb.2.2.2.1
                    obtain ⟨ns, hns⟩ : ∃ ns, n + (70 + 1) = ns := ⟨_, rfl⟩
                    have HNS := hide1 hns
                    rw [hns]
                    clear hns
                    go_wp2_with (at_builtin; go_must (refine wpl_lo (E := slE) rfl _ _ rfl wk.heap.size (.slice aM u cM) ls u hxl.out (by rfl) (LO.keep hS.out.gl ((Kept.refl wr).alloc _ _)) wr.heap.size (xa, ns, xc) (by rfl) (heap_alloc_new wr _) (by show (u + 1) * 24 ≤ 140737488355328; omega) (by unfold maxLen; omega) (Nat.le_trans hsz0 ((Kept.refl wr).alloc _ _).size) ?_); intro g7 c7 w7 ho7 hg7 hor7 hlt7; have hstep := hide1 (gr_push (x := (xa, n + (70 + 1), xc)) hT hS.out hC.out HIT.out hxl.out HLO.out HOLD.out ((Kept.refl wr).alloc #[.slice xa ns xc] 25) (by rw [HNS.out]; exact ho7) hg7); clear ho7 hg7 hor7 hlt7)
                    go_roundw
                    case rel => exact ⟨u + 1, ls ++ [(xa, n + (70 + 1), xc)], C, updF D u G, some ⟨g7, 0, none⟩, c7, rfl, by go_num, by omega, hide1 (by rw [List.length_append, hxl.out]; rfl), hstep⟩
                    case measure => simp [intOf]; omega
              · obtain rfl : u = t := by omega
                clear hlt hu
                have HP := hide1 (fun (v : Nat) (hv : v < u) => gr_rows hS.out hxl.out HX.out rfl rfl v hv)
                have HK := hide1 hS.out.kb
                have HUC : Hid (u ≤ cM) := (by have h1 := hS.out.gl.cap; have := hxl.out; omega : u ≤ cM)
                clear hS
                obtain ⟨wb, hwb⟩ : ∃ x, x = wr := ⟨_, rfl⟩
                subst hwb
                go_wp2_with fail
                go_loopw [20] (fun i wx => ∃ v : Nat, i = .int .i64 (v : Int) ∧ v ≤ u ∧ Hid (Kept wb wx)) (fun i _ => u - (intOf i).toNat)
                case atStart => exact ⟨0, rfl, by omega, Kept.refl _⟩
                case round =>
                  obtain ⟨v, rfl, hv, hk⟩ := hrel
                  by_cases hlt : (v : Int) < (u : Int)
                  · obtain ⟨⟨ya, n, cy⟩, ⟨xa, n7, xc⟩, gM, hy, h71, hcy, hcx, rfl, hcM, hr1, hr2⟩ := HP.out v (by omega)
                    dsimp only at h71 hcy hcx hcM hr1 hr2
                    have h71I : (n7 : Int) = (n : Int) + 71 := by omega
                    have HN7 := hide1 h71
                    have q1 := kcell (HC.out _ HK.out v _ hy)
                    dsimp only at q1
                    have q2 := kcell hcM
                    have hcyI : (n : Int) ≤ (cy : Int) := by omega
                    have hcxI : (n7 : Int) ≤ (xc : Int) := by omega
                    have hn4 : n ≤ 65537 := HLEN.out v _ hy
                    have gn : (n : Int) ≤ 65537 := by omega
                    have hvkc : (v : Int) < (kc : Int) := by omega
                    have HCM : Hid (u ≤ cM) := HUC.out
                    have hvcM : (v : Int) < (cM : Int) := by have := HCM.out; omega
                    obtain ⟨hms0, hmk0⟩ := HMS.out v (by omega)
                    obtain ⟨mt, hmt⟩ : ∃ mt, mkS v = mt := ⟨_, rfl⟩
                    rw [hmt] at hms0 hmk0
                    have HMK := hide1 hmk0
                    have HR1 : Hid (∀ s, s < n → ∃ gy gx, ya = some ⟨gy, 0, none⟩ ∧ xa = some ⟨gx, 0, none⟩ ∧ wb.cell? ⟨gy, s, none⟩ = some (.string (⟨#[107, 101, 112, 116, 32]⟩ ++ mt)) ∧ wb.cell? ⟨gx, s, none⟩ = some (.string (⟨#[107, 101, 112, 116, 32]⟩ ++ mt))) := fun s hs => by
                      obtain ⟨gy, gx, e1, e2, r3⟩ := hr1 s hs
                      have r4 := r3 0 (.string (⟨#[107, 101, 112, 116, 32]⟩ ++ mt)) (by show some (Value.string (kS v)) = _; unfold kS; rw [hmt])
                      rw [show s * strE.sz + 0 = s by show s * 1 + 0 = s; omega] at r4
                      exact ⟨gy, gx, e1, e2, r4⟩
                    have HR2 : Hid (∀ s, n ≤ s → s < n7 → ∃ gx, xa = some ⟨gx, 0, none⟩ ∧ wb.cell? ⟨gx, s, none⟩ = some (.string (⟨#[109, 111, 114, 101, 32]⟩ ++ mt))) := fun s hs hs2 => by
                      obtain ⟨gx, e2, r3⟩ := hr2 (s - n) (by omega)
                      have r4 := r3 0 (.string (⟨#[109, 111, 114, 101, 32]⟩ ++ mt)) (by show some (Value.string (moS v)) = _; unfold moS; rw [hmt])
                      rw [show (n + (s - n)) * strE.sz + 0 = s by show (n + (s - n)) * 1 + 0 = s; omega] at r4
                      exact ⟨gx, e2, r4⟩
                    clear hy hcM hr1 hr2 h71 hmk0 hmt
                    have d1 := q1 _ hk.out
                    go_wp2_with fail
                    clear d1
                    go_loopw [22] (fun i wx => ∃ s : Nat, i = .int .i64 (s : Int) ∧ s ≤ n7 ∧ Hid (Kept wb wx)) (fun i _ => n7 - (intOf i).toNat)
                    case atStart => exact ⟨0, rfl, by omega, hk⟩
                    case round =>
                      clear hk
                      obtain ⟨s, rfl, hs, hk⟩ := hrel
                      have d2 := q2 _ hk.out
                      by_cases hlt2 : (s : Int) < (n7 : Int)
                      · have hsx : (s : Int) < (xc : Int) := by omega
                        by_cases hsn : (s : Int) < (n : Int)
                        · have hsy : (s : Int) < (cy : Int) := by omega
                          have hge : ¬ (n : Int) ≤ (s : Int) := by omega
                          obtain ⟨gy, gx, rfl, rfl, a0, b0⟩ := HR1.out s (by omega)
                          have d1 := q1 _ hk.out
                          have ka := keeps (grown_cell hk.out a0)
                          have kb := keeps (grown_cell hk.out b0)
                          have kd1 := keeps d1
                          have kd2 := keeps d2
                          have hadd : ¬ 9223372036854775807 < 5 + mt.size := by omega
                          clear a0 b0
                          go_upto_region 40 with fail
                          go_region_held3 (fun w' => Kept wr w') (first | assumption | exact Kept.refl _ | exact drew_kept _) ((go_at_call 12; refine (HMK.out _).mono ?_; rintro e w5 ⟨rfl, hk5⟩; have k5 : Kept wr w5 := gtrans (by first | assumption | exact Kept.refl _ | exact drew_kept _) hk5))
                          have HK5 := hide1 (gtrans hk.out k5)
                          clear ka kb kd1 kd2 d1 d2
                          go_upto_region 42 with fail
                          have hgef : decide (n ≤ s) = false := decide_eq_false (by omega)
                          go_quiet (fail)
                          go_wp2_with fail
                          go_roundw
                          case rel => exact ⟨s + 1, by go_num, by omega, by first | exact gtrans HK5.out (drewN_kept _ _) | exact HK5.out | exact gtrans HK5.out (drew_kept _)⟩
                          case measure => simp [intOf]; omega
                        · obtain ⟨gx, rfl, b0⟩ := HR2.out s (by omega) (by omega)
                          have hge : (n : Int) ≤ (s : Int) := by omega
                          have hadd : ¬ 9223372036854775807 < 5 + mt.size := by omega
                          go_upto_region 40 with fail
                          go_quiet (fail)
                          have HKQ : Hid (Kept wb (wr.drewN nq)) := gtrans hk.out (drewN_kept _ _)
                          obtain ⟨wz, hwz⟩ : ∃ wz, wr.drewN nq = wz := ⟨_, rfl⟩
                          rw [hwz] at HKQ ⊢
                          clear hwz d2
                          have d2 := q2 _ HKQ.out
                          have kb := keeps (grown_cell HKQ.out b0)
                          have kd2 := keeps d2
                          clear b0
                          go_upto_region 42 with fail
                          go_region_held3 (fun w' => Kept wz w') (first | assumption | exact Kept.refl _ | exact drew_kept _) ((go_at_call 12; refine (HMK.out _).mono ?_; rintro e w5 ⟨rfl, hk5⟩; have k5 : Kept wz w5 := gtrans (by first | assumption | exact Kept.refl _ | exact drew_kept _) hk5))
                          have HK5 := hide1 (gtrans HKQ.out k5)
                          clear kb kd2 d2
                          go_wp2_with fail
                          go_roundw
                          case rel => exact ⟨s + 1, by go_num, by omega, HK5.out⟩
                          case measure => simp [intOf]; omega
                      · go_wp2_with fail
                        go_roundw
                        case rel => exact ⟨v + 1, by go_num, by omega, hk⟩
                        case measure => simp [intOf]; omega
                  · go_wp2_with fail
                    go_ret
                    exact ⟨rfl, gtrans (HKF.out _ HK.out) hk.out⟩
end Sh
end Ex
end Go.Proofs.YtajmbplipjeojaaDoor
