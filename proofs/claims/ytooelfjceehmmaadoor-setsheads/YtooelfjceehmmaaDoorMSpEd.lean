import Derived.Test.YtooelfjceehmmaaDoorMSpEb
import Derived.Deep.RegionHeld3
namespace Go.Proofs.YtooelfjceehmmaaDoor
open Go.RowKit
attribute [local go_sem] Oper.semAt_some
namespace Ex

theorem famF_zero {G : List (Nat × List Bool)} {g nl : Nat} (h : ∀ n, famF G n = 0) : ∀ n, famF (G ++ [(g, List.replicate (nl + 2) false)]) n = 0 := by
  intro n
  have h1 := h n
  unfold famF at h1 ⊢
  rcases Nat.lt_or_ge n G.length with hi | hi
  · rw [List.getElem?_append_left hi]; exact h1
  · rw [List.getElem?_append_right hi]
    rcases Nat.lt_or_ge (n - G.length) 1 with hj | hj
    · rw [show n - G.length = 0 by omega]
      show bitsOf (List.replicate (nl + 2) false) = 0
      exact bits_false _
    · rw [List.getElem?_eq_none (by simp; omega)]
      rfl
/-- Add, where it is known whether it adds. -/
def AddF (ga m : Nat) (ms ns : List Bool) (fl : Bool) (w : World) (e : Ending) (w' : World) : Prop := ∃ zs : List Bool, zs.length = m ∧ bitsOf zs = bitsOf ms ||| bitsOf ns ∧ e = .returned (.bool fl) ∧ TabB w' ga zs ∧ KeptBut ga w w'
theorem add_false {ga m : Nat} {ms ns : List Bool} {w w' : World} {e : Ending} (h : AddR ga m ms ns w e w') (hn : bitsOf ms ||| bitsOf ns = bitsOf ms) : AddF ga m ms ns false w e w' := by
  obtain ⟨zs, fl, h1, h2, h3, h4, h5, h6⟩ := h
  cases fl with
  | false => exact ⟨zs, h1, h2, h3, h5, h6⟩
  | true => exact absurd (h2.trans hn) (h4.1 rfl)
theorem add_true {ga m : Nat} {ms ns : List Bool} {w w' : World} {e : Ending} (h : AddR ga m ms ns w e w') (hn : ¬ bitsOf ms ||| bitsOf ns = bitsOf ms) : AddF ga m ms ns true w e w' := by
  obtain ⟨zs, fl, h1, h2, h3, h4, h5, h6⟩ := h
  cases fl with
  | true => exact ⟨zs, h1, h2, h3, h5, h6⟩
  | false => exact absurd (h4.2 (by rw [h2]; exact hn)) (by decide)
theorem fiF_same {G : List (Nat × List Bool)} {l g : Nat} {ms hs ys : List Bool} (hl : G[l]? = some (g, ms)) (hy : bitsOf ys = bitsOf ms ||| bitsOf hs) (hn : bitsOf ms ||| bitsOf hs = bitsOf ms) : famF (G.set l (g, ys)) = famF G := by
  rw [famF_set hl hy]
  funext i
  unfold orV
  split
  · next e => subst e; rw [famF_at hl]; exact hn
  · rfl
theorem fiF_new {G : List (Nat × List Bool)} {F0 : Nat → Nat} {l g : Nat} {ms hs ys : List Bool} (hup : ∀ x, famS F0 x → famS (famF G) x) (hl : G[l]? = some (g, ms)) (hy : bitsOf ys = bitsOf ms ||| bitsOf hs) (hn : ¬ bitsOf ms ||| bitsOf hs = bitsOf ms) : famF (G.set l (g, ys)) l ≠ F0 l := by
  intro e
  rw [famF_set hl hy] at e
  unfold orV at e
  rw [if_pos rfl, famF_at hl] at e
  apply hn
  refine Nat.eq_of_testBit_eq (fun t => ?_)
  rw [Bool.eq_iff_iff]
  constructor
  · intro ht
    rw [e] at ht
    have := hup (l, t) ht
    unfold famS at this
    rw [famF_at hl] at this
    exact this
  · intro ht
    rw [Nat.testBit_or, ht]
    rfl
theorem fiF_step {nl E m l : Nat} {ps : List ProdM} {F0 F F3 : Nat → Nat} {p : ProdM} {hs : List Bool} (hp : ps[m]? = some p) (hl : p.1.toNat = l) (hb : bitsOf hs = headsM nl E F (bitsOf []) p.2 0) (h : LfStep (fun _ => False) (fun i => i < ps.length) (FiG nl (fun n => E.testBit n = true) ps) (famS F0) (famS F) (fun i => i < m)) (hF : F3 = orV F l (bitsOf hs)) : LfStep (fun _ => False) (fun i => i < ps.length) (FiG nl (fun n => E.testBit n = true) ps) (famS F0) (famS F3) (fun i => i < m + 1) := by
  subst hF
  have hbit : ∀ t, (bitsOf hs).testBit t = true ↔ HeadS nl (fun n => E.testBit n = true) (famS F) (fun _ => False) p.2 t := by
    intro t
    rw [hb, heads_bit]
    constructor
    · rintro (h0 | h0)
      · simp at h0
      · exact h0.mono (fun _ h => h) (fun t ht => by simp [bitsOf] at ht)
    · intro h0
      exact .inr (h0.mono (fun _ h => h) (fun t ht => ht.elim))
  refine h.put (fi_up _ _ _) (i := m) (List.getElem?_eq_some_iff.1 hp).1 (fun k hk => by omega) (fun x hx => (fam_set _ _ _ x).2 (.inl hx)) (fun x hx => ?_) (fun x hx => ?_)
  · rcases (fam_set _ _ _ x).1 hx with h1 | ⟨h1, h2⟩
    · exact .inl h1
    · exact .inr ⟨p, hp, by rw [hl]; exact h1, (hbit x.2).1 h2⟩
  · obtain ⟨q, hq, h1, h2⟩ := hx
    rw [hp] at hq
    injection hq with hq
    subst hq
    exact (fam_set _ _ _ x).2 (.inr ⟨by rw [← hl]; exact h1, (hbit x.2).2 h2⟩)
set_option linter.unusedSimpArgs false in
set_option maxRecDepth 100000 in
set_option maxHeartbeats 8000000 in
/-- The document's First of a spec in order. -/
theorem dFirst_is (k : Nat) (lex : List (LexM k)) (ps : List ProdM) (al an ap : Option Addr) (nl cl nn cn np cp : Nat) (x2 : Value) (w : World) (hnl : nl ≤ 64) (hnn : nn ≤ 128) (hn1 : 0 < nn) (hlex : lex.length = nl) (hps : ps.length = np) (hp : ProdsAt w (.slice ap np cp) ps) (hok : ∀ p ∈ ps, (0 ≤ p.1 ∧ p.1 < (nn : Int)) ∧ ∀ x ∈ p.2, symErr lex nn x = 0) :
    Calls Tryd.prog 39 #[.agg #[.slice al nl cl, .slice an nn cn, x2, .slice ap np cp]] w (FirR nl nn ps w) := by
  have HK1 : Hid (Kept w (w.alloc (.cells #[.slice al nl cl, .slice an nn cn, x2, .slice ap np cp] 26))) := (Kept.refl w).alloc _ _
  have HB1 := hide1 (SBox.new w (.slice al nl cl) (.slice an nn cn) x2 (.slice ap np cp))
  have HP := hide1 hp
  have HPS := hide1 hps
  have HOK := hide1 hok
  have HEN := hide1 (exact_names hlex hok)
  have HNN := hide1 hnn
  have HNL := hide1 hnl
  have HLEN := hide1 hlex
  have HN1 := hide1 hn1
  obtain ⟨_, _, e1, hc, hn⟩ := hp.len
  simp only [Value.slice.injEq] at e1
  obtain ⟨rfl, en, rfl⟩ := e1
  clear en
  rw [hps] at hc hn
  have gn : (nn : Int) ≤ 128 := by omega
  have gl : (nl : Int) ≤ 64 := by omega
  have gp : (np : Int) ≤ 17592186044416 := by omega
  clear hp hps hok hlex
  go_enter Tryd.func39, Tryd.ntmps39
  go_upto_region 1 with fail
  obtain ⟨W0, hW0⟩ : ∃ W0, w.alloc (.cells #[.slice al nl cl, .slice an nn cn, x2, .slice ap np cp] 26) = W0 := ⟨_, rfl⟩
  rw [hW0] at HK1 HB1 ⊢
  clear hW0
  obtain ⟨b, hb⟩ : ∃ b, w.heap.size = b := ⟨_, rfl⟩
  rw [hb] at HB1 ⊢
  clear hb
  obtain ⟨s0, s1, s2, s3⟩ := HB1.out.facts
  go_upto_region 2 with (go_at_call 40; refine (dNullable_is ps (.slice al nl cl) x2 an ap nn cn np cp W0 HNN.out HPS.out (HP.out.keep HK1.out) HEN.out).mono ?_; rintro e W ⟨es, ge, rfl, h1, h2, h3, h4, h5⟩; have HEL := hide1 h1; have HEM := hide1 h2; have HE := hide1 h4; have HK2 := hide1 h5; clear h1 h2 h3 h4 h5)
  clear s0 s1 s2 s3
  have HBW := hide1 (HB1.out.keep HK2.out)
  have HKW := hide1 (gtrans HK1.out HK2.out)
  have HEF : Hid ((fun n => (bitsOf es).testBit n = true) = Mk false ps) := funext (fun n => propext (HEM.out n))
  go_wp2_with fail
  go_loopw [4, 5] (FaI nl nn W) (fun _ i _ => nn - (intOf i).toNat)
  case atStart => exact ⟨0, [], rfl, Nat.zero_le _, ⟨none, 0, rfl⟩, rfl, SetsO.nil _ _, ⟨fun i x hx => (by simp at hx), fun i j x y hx => (by simp at hx)⟩, fun n => rfl, Kept.refl W⟩
  case round =>
    obtain ⟨j, G, rfl, hj, ⟨a, c, rfl⟩, HGL, HO, HFN, HZ, HKr⟩ := hrel
    obtain ⟨s0, s1, s2, s3⟩ := (HBW.out.keep HKr.out).facts
    by_cases hlt : (j : Int) < (nn : Int)
    · have HWS : Hid (W.heap.size ≤ wr.heap.size) := HKr.out.size
      go_upto_region 7 with (go_at_call 36; refine (dNone_is al nl cl (.slice an nn cn) x2 (.slice ap np cp) wr HNL.out).mono ?_; rintro e w1 ⟨g, rfl, hg, ht1, hk1⟩; have HGG := hide1 hg; have HT1 := hide1 ht1; have HKa := hide1 hk1; clear hg ht1 hk1)
      clear s0 s1 s2 s3
      have HOa := hide1 (HO.out.keep HKa.out)
      have HMJ : Hid ((G.map (tabV nl)).length = j) := by show _ = _; rw [List.length_map]; exact HGL.out
      have HLE : Hid ((G.map (tabV nl)).length ≤ 8388608) := by have := HMJ.out; show _ ≤ _; omega
      have HFA : Hid (FamN nl W.heap.size w1 (G ++ [(g, List.replicate (nl + 2) false)])) := (HFN.out.keep HKa.out).add (fun i x hx e => by have := (HFN.out.tab i x hx).1.lt; have := HGG.out; omega) HT1.out List.length_replicate (by have := HGG.out; have := HWS.out; omega)
      have HKb := hide1 (gtrans HKr.out HKa.out)
      go_wp2_with (at_builtin; go_must (refine wpl_sets rfl _ _ rfl _ W.heap.size _ _ j HMJ.out (by rfl) (HOa.out.keep (w' := w1.alloc (.cells #[.slice (some ⟨g, 0, none⟩) (nl + 2) (nl + 2)] 94)) ((Kept.refl w1).alloc _ _)) w1.heap.size (.slice (some ⟨g, 0, none⟩) (nl + 2) (nl + 2)) rfl (by rfl) (heap_alloc_new w1 _) HLE.out (by exact Nat.le_trans HKb.out.size (allocS_le w1 _)) ?_; intro g9 c9 w9 ho9 hg9 hor9 hl9; have HO9 := hide1 ho9; have HF9 := hide1 (HFA.out.grown HOa.out hg9); have HK9 : Hid (Kept W w9) := sets_grown HKb.out (Nat.le_refl _) HOa.out hg9; clear ho9 hg9 hor9 hl9))
      go_roundw
      case rel => exact ⟨j + 1, G ++ [(g, List.replicate (nl + 2) false)], by go_num, by omega, ⟨_, _, rfl⟩, (by show _ = _; rw [List.length_append, HGL.out]; rfl), (by show SetsO _ _ _ _; rw [List.map_append]; exact HO9.out), HF9, famF_zero HZ.out, HK9⟩
      case measure => simp [intOf]; omega
    · have hjn : j = nn := by omega
      subst hjn
      obtain ⟨gf, rfl⟩ : ∃ gf, a = some ⟨gf, 0, none⟩ := own_addr HO.out (by rw [List.length_map, HGL.out]; exact HN1.out)
      obtain ⟨hfs, hcf⟩ := fam_of HGL.out HO.out HFN.out
      have HFS := hide1 hfs
      clear hfs hlt hj
      go_wp2_with fail
      clear s0 s1 s2 s3
      go_loopw [7] (FbI nl j gf (bitsOf es) ps W) (fun f wr => 2 * leftF (rdFam7 gf j wr) + flagN f)
      case atStart => exact ⟨G, true, rfl, HFS, fun x hx => (by unfold famS at hx; rw [HZ.out] at hx; simp at hx), fun h => (by cases h), HKr⟩
      case round =>
        obtain ⟨G1, fl, rfl, HF1, HSO, HFI, HKo⟩ := hrel
        cases fl with
        | true =>
          go_wp2_with fail
          go_loopw [7, 8] (FbJ nl j gf (bitsOf es) ps (famF G1) W) (fun _ i _ => np - (intOf i).toNat)
          case atStart => exact ⟨0, G1, false, rfl, rfl, Nat.zero_le _, HF1, LfStep.start _ (fun i => by omega), ⟨fun _ => rfl, fun h => (by cases h)⟩, HKo⟩
          case round =>
            obtain ⟨m, G2, f2, rfl, rfl, hm, HF2, HST, HFL, HKi⟩ := hrel
            rw [HPS.out] at hm
            obtain ⟨s0, s1, s2, s3⟩ := (HBW.out.keep HKi.out).facts
            by_cases hlt : (m : Int) < (np : Int)
            · obtain ⟨p, hp⟩ : ∃ p, ps[m]? = some p := ⟨_, List.getElem?_eq_getElem (by have := HPS.out; omega)⟩
              obtain ⟨cb, o2, cs, ea, hcb, hlen, hcell, v', hcs, hrt⟩ := SliceOf.el (HP.out.keep (gtrans HKW.out HKi.out)) hp
              subst ea hcs
              have k0 : wr.cell? ⟨cb, o2 + m * 2, none⟩ = some (.int .i64 p.1) := hcell 0 _ rfl
              have k1 := hcell 1 _ rfl
              have gmc : (m : Int) < (cp : Int) := by omega
              have HOKp := hide1 (HOK.out p (List.mem_of_getElem? hp))
              have HPJ := hide1 hp
              obtain ⟨ar, cr, rfl, hcr, hnr⟩ := hrt.len
              obtain ⟨nr, hnr2⟩ : ∃ nr, p.2.length = nr := ⟨_, rfl⟩
              rw [hnr2] at hrt hcr hnr k1
              have HNR := hide1 hnr2
              have HRT := hide1 hrt
              obtain ⟨l, hl⟩ : ∃ l : Nat, p.1 = (l : Int) := ⟨p.1.toNat, by have := HOKp.out.1.1; omega⟩
              have HLE : Hid (p.1.toNat = l) := by show _ = _; omega
              have gln : (l : Int) < (j : Int) := by have := HOKp.out.1; omega
              rw [hl] at k0
              clear hp hcell hrt hnr2 hl
              have HPB := hide1 (PBox.new wr (.int .i64 (l : Int)) (.slice ar nr cr))
              have HK4 : Hid (Kept wr (wr.alloc (.cells #[.int .i64 (l : Int), .slice ar nr cr] 40))) := (Kept.refl wr).alloc _ _
              go_upto_region 15 with fail
              clear k0 k1 s0 s1 s2 s3
              obtain ⟨W4, hW4⟩ : ∃ W4, wr.alloc (.cells #[.int .i64 (l : Int), .slice ar nr cr] 40) = W4 := ⟨_, rfl⟩
              rw [hW4] at HPB HK4 ⊢
              clear hW4
              obtain ⟨pb, hpb⟩ : ∃ pb, wr.heap.size = pb := ⟨_, rfl⟩
              rw [hpb] at HPB ⊢
              have HPBW : Hid (wr.heap.size ≤ pb) := Nat.le_of_eq hpb
              clear hpb
              obtain ⟨p0, p1⟩ := HPB.out.cells
              have HKW4 := hide1 (gtrans HKi.out HK4.out)
              have HF4 := hide1 (HF2.out.keep HK4.out)
              obtain ⟨s0, s1, s2, s3⟩ := (HBW.out.keep HKW4.out).facts
              go_upto_region 16 with (go_at_call 38; refine (dHeadsF_is k lex p.2 al ar none nl cl nr cr 0 0 gf c ge j j G2 es [] (.slice an j cn) x2 _ W4 HNL.out HNN.out HLEN.out HNR.out HF4.out.len HEL.out rfl (Nat.zero_le _) (Nat.le_refl _) hcf (Nat.le_refl _) (HRT.out.keep HK4.out) HOKp.out.2 HF4.out.fam (HE.out.keep HKW4.out) (.inl rfl)).mono ?_; rintro e w5 ⟨h, hs, rfl, h51, h52, h53, h54, h55⟩; have HHG := hide1 h51; have HHL := hide1 h52; have HHB := hide1 h53; have HHT := hide1 h54; have HK5 := hide1 h55; clear h51 h52 h53 h54 h55)
              clear s0 s1 s2 s3 p0 p1
              have HF5 := hide1 (HF4.out.keep HK5.out)
              have HKW5 := hide1 (gtrans HKW4.out HK5.out)
              have HPB5 := hide1 (HPB.out.keep HK5.out)
              obtain ⟨⟨gl', ms⟩, hgx⟩ : ∃ x, G2[l]? = some x := ⟨_, List.getElem?_eq_getElem (by have := HF5.out.len; omega)⟩
              have HGX := hide1 hgx
              have c0 : w5.cell? ⟨gf, l, none⟩ = some (.slice (some ⟨gl', 0, none⟩) (nl + 2) (nl + 2)) := HF5.out.fam.cell l _ hgx
              have HTL := hide1 (HF5.out.fam.tab l _ hgx)
              have HWL := hide1 (HF5.out.apart.tab l _ hgx).2.2
              have glc : (l : Int) < (c : Int) := by omega
              have HNE : Hid (h ≠ gl') := by have h1 := ((HF4.out.fam.tab l _ hgx).1).lt; have h2 := HHG.out; show _ ≠ _; omega
              have HPL : Hid (pb ≠ gl') := by have h1 := ((HF2.out.fam.tab l _ hgx).1).lt; have h2 := HPBW.out; show _ ≠ _; omega
              clear hgx
              obtain ⟨p0, p1⟩ := HPB5.out.cells
              have HAD := hide1 (dAdd_is gl' ms hs (some ⟨h, 0, none⟩) (nl + 2) (nl + 2) (nl + 2) (nl + 2) w5 HTL.out.2 HHL.out (Nat.le_refl _) (by omega) (Nat.le_refl _) (Nat.le_refl _) HTL.out.1 (.inr ⟨h, rfl, HNE.out, HHT.out⟩))
              by_cases hne : bitsOf ms ||| bitsOf hs = bitsOf ms
              · have HNEQ := hide1 hne
                have HAD2 : Hid (Calls Tryd.prog 71 #[.slice (some ⟨gl', 0, none⟩) (nl + 2) (nl + 2), .slice (some ⟨h, 0, none⟩) (nl + 2) (nl + 2)] w5 (AddF gl' (nl + 2) ms hs false w5)) := HAD.out.mono (fun e w6 h6 => add_false h6 hne)
                go_wp2_with (go_at_call 71; refine HAD2.out.mono ?_; rintro e w6 ⟨ys, h61, h62, rfl, h64, h65⟩; have HYL := hide1 h61; have HYB := hide1 h62; have HT6 := hide1 h64; have HK6 := hide1 h65; clear h61 h62 h64 h65)
                have HF6 := hide1 (HF5.out.put HGX.out HT6.out HYL.out HK6.out)
                have HFQ := hide1 (famF_set HGX.out HYB.out)
                have HKW6 : Hid (Kept W w6) := kept_ofB HKW5.out HK6.out HWL.out
                have HS6 := hide1 (fiF_step HPJ.out HLE.out HHB.out HST.out HFQ.out)
                go_roundw
                case rel => exact ⟨m + 1, G2.set l (gl', ys), f2, rfl, by go_num, by rw [HPS.out]; omega, HF6, HS6, ⟨fun h => (by rw [fiF_same HGX.out HYB.out hne]; exact HFL.out.1 h), fun h => (by rw [fiF_same HGX.out HYB.out hne]; exact HFL.out.2 h)⟩, HKW6⟩
                case measure => simp [intOf]; omega
              · have HNEQ := hide1 hne
                have HAD2 : Hid (Calls Tryd.prog 71 #[.slice (some ⟨gl', 0, none⟩) (nl + 2) (nl + 2), .slice (some ⟨h, 0, none⟩) (nl + 2) (nl + 2)] w5 (AddF gl' (nl + 2) ms hs true w5)) := HAD.out.mono (fun e w6 h6 => add_true h6 hne)
                go_wp2_with (go_at_call 71; refine HAD2.out.mono ?_; rintro e w6 ⟨ys, h61, h62, rfl, h64, h65⟩; have HYL := hide1 h61; have HYB := hide1 h62; have HT6 := hide1 h64; have HK6 := hide1 h65; clear h61 h62 h64 h65)
                have HF6 := hide1 (HF5.out.put HGX.out HT6.out HYL.out HK6.out)
                have HFQ := hide1 (famF_set HGX.out HYB.out)
                have HKW6 : Hid (Kept W w6) := kept_ofB HKW5.out HK6.out HWL.out
                have HS6 := hide1 (fiF_step HPJ.out HLE.out HHB.out HST.out HFQ.out)
                go_roundw
                case rel => exact ⟨m + 1, G2.set l (gl', ys), true, rfl, by go_num, by rw [HPS.out]; omega, HF6, HS6, ⟨fun h => (by cases h), fun _ => ⟨l, by omega, fiF_new HST.out.up HGX.out HYB.out hne⟩⟩, HKW6⟩
                case measure => simp [intOf]; omega
            · have hmn : m = ps.length := by have := HPS.out; omega
              have HST2 : Hid (LfStep (fun _ => False) (fun i => i < ps.length) (FiG nl (fun n => (bitsOf es).testBit n = true) ps) (famS (famF G1)) (famS (famF G2)) (fun i => i < ps.length)) := hmn ▸ HST
              go_wp2_with fail
              go_roundw
              case rel =>
                refine ⟨G2, f2, rfl, HF2, HST2.out.sound HSO.out, fun h => ?_, HKi⟩
                have e := HFL.out.1 h
                have h2 := HST2.out
                rw [e] at h2 ⊢
                exact h2
              case measure =>
                rw [HF2.out.rd, HF1.out.rd]
                cases f2 with
                | false => rw [HFL.out.1 rfl]; simp [flagN]
                | true =>
                  have := fam_flag HNN.out (famF_lt HF2.out HNL.out) (famF_lt HF1.out HNL.out) HST2.out.up (HFL.out.2 rfl)
                  simp [flagN]
                  omega
        | false =>
          have HFN2 : Hid (∀ x, famS (famF G1) x ↔ Fi nl (Mk false ps) ps x) := by
            intro x
            rw [← HEF.out]
            exact (HFI.out rfl).done (fun i h => h) (fun x h => h.elim) HSO.out x
          go_wp2_with fail
          go_ret
          exact ⟨gf, c, G1, rfl, hcf, fms_low HF1.out HKW.out.size, HFN2.out, gtrans HKW.out HKo.out⟩

end Ex
end Go.Proofs.YtooelfjceehmmaaDoor
namespace Go.Proofs.YtooelfjceehmmaaDoor
open Go.RowKit
attribute [local go_sem] Oper.semAt_some
namespace Ex

/-- Whether a number is a terminal's is answered. -/
def TermA {k : Nat} (lex : List (LexM k)) (nl : Nat) (z : Int) (w : World) (e : Ending) (w' : World) : Prop := ∃ tb : Bool, e = .returned (.bool tb) ∧ (tb = true ↔ TermOk lex nl z) ∧ Kept w w'
set_option linter.unusedSimpArgs false in
set_option maxRecDepth 100000 in
set_option maxHeartbeats 4000000 in
theorem dTerminal_is (k : Nat) (lex : List (LexM k)) (al : Option Addr) (nl cl : Nat) (x1 x2 x3 : Value) (z : Int) (w : World) (hnl : nl ≤ 64) (hlex : lex.length = nl) (hl : LexAt w k (.slice al nl cl) lex) :
    Calls Tryd.prog 37 #[.agg #[.slice al nl cl, x1, x2, x3], .int .i64 z] w (TermA lex nl z w) := by
  have HK1 : Hid (Kept w (w.alloc (.cells #[.slice al nl cl, x1, x2, x3] 26))) := (Kept.refl w).alloc _ _
  have HB1 := hide1 (SBox.new w (.slice al nl cl) x1 x2 x3)
  have HL := hide1 hl
  have HLEN := hide1 hlex
  obtain ⟨_, _, e1, hc, hn⟩ := SliceOf.len hl
  simp only [Value.slice.injEq] at e1
  obtain ⟨rfl, en, rfl⟩ := e1
  clear en
  rw [hlex] at hc
  have gl : (nl : Int) ≤ 64 := by omega
  clear hl hlex hn
  go_enter Tryd.func37, Tryd.ntmps37
  go_upto_region 1 with fail
  obtain ⟨W, hW⟩ : ∃ W, w.alloc (.cells #[.slice al nl cl, x1, x2, x3] 26) = W := ⟨_, rfl⟩
  rw [hW] at HK1 HB1 ⊢
  clear hW
  obtain ⟨b, hb⟩ : ∃ b, w.heap.size = b := ⟨_, rfl⟩
  rw [hb] at HB1 ⊢
  clear hb
  obtain ⟨s0, s1, s2, s3⟩ := HB1.out.facts
  by_cases h1 : z = (nl : Int)
  · subst h1
    have HT : Hid (TermOk lex nl (nl : Int)) := ⟨by omega, by omega, fun h => by omega⟩
    go_wp2_with fail
    go_ret
    exact ⟨true, rfl, ⟨fun _ => HT.out, fun _ => rfl⟩, HK1.out⟩
  · have b1 : (z == (nl : Int)) = false := by simpa using h1
    by_cases h2 : z = (nl : Int) + 1
    · subst h2
      have HT : Hid (TermOk lex nl ((nl : Int) + 1)) := ⟨by omega, by omega, fun h => by omega⟩
      clear h1
      go_wp2_with fail
      go_ret
      exact ⟨true, rfl, ⟨fun _ => HT.out, fun _ => rfl⟩, HK1.out⟩
    · have b2 : (z == (nl : Int) + 1) = false := by simpa using h2
      by_cases h3 : 0 ≤ z
      · by_cases h4 : z < (nl : Int)
        · obtain ⟨i, rfl⟩ : ∃ i : Nat, z = (i : Int) := ⟨z.toNat, by omega⟩
          obtain ⟨x, hx⟩ : ∃ x, lex[i]? = some x := ⟨_, List.getElem?_eq_getElem (by have := HLEN.out; omega)⟩
          obtain ⟨cb, o2, cs, ea, hcb, hlen, hcell, v', hcs, _⟩ := SliceOf.el (HL.out.keep HK1.out) hx
          subst ea hcs
          have k1 := hcell 1 _ rfl
          have gic : (i : Int) < (cl : Int) := by omega
          have HT : Hid (TermOk lex nl (i : Int) ↔ x.2.1 = false) := by
            show _ ↔ _
            unfold TermOk
            rw [Int.toNat_natCast, hx]
            simp only [Option.map_some, Option.getD_some]
            constructor
            · rintro ⟨_, _, h⟩
              cases hb : x.2.1 with
              | false => rfl
              | true => exact absurd ⟨h4, hb⟩ h
            · intro h
              exact ⟨by omega, by omega, fun hh => by rw [h] at hh; exact absurd hh.2 (by decide)⟩
          obtain ⟨nm, tv, pt⟩ := x
          dsimp only at k1 HT
          clear hx hcell h1 h2
          cases tv with
          | true =>
            go_wp2_with fail
            go_ret
            exact ⟨false, rfl, ⟨fun h => (by cases h), fun h => (by cases HT.out.1 h)⟩, HK1.out⟩
          | false =>
            go_wp2_with fail
            go_ret
            exact ⟨true, rfl, ⟨fun _ => HT.out.2 (by first | exact rfl | trivial), fun _ => rfl⟩, HK1.out⟩
        · have HT : Hid (¬ TermOk lex nl z) := fun h => by have := h.2.1; omega
          clear h1 h2
          go_wp2_with fail
          go_ret
          exact ⟨false, rfl, ⟨fun h => (by cases h), fun h => absurd h HT.out⟩, HK1.out⟩
      · have HT : Hid (¬ TermOk lex nl z) := fun h => h3 h.1
        have b3 : decide (0 ≤ z) = false := by simpa using h3
        clear h1 h2
        go_wp2_with fail
        go_ret
        exact ⟨false, rfl, ⟨fun h => (by cases h), fun h => absurd h HT.out⟩, HK1.out⟩

end Ex
end Go.Proofs.YtooelfjceehmmaaDoor
