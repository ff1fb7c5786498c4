import Derived.Test.YtooelfjceehmmaaDoorMSpYl
namespace Go.Proofs.YtooelfjceehmmaaDoor
open Go.RowKit
attribute [local go_sem] Oper.semAt_some
namespace Ex

/-- Yields are answered, or the first name that has none. -/
def YldO (nl : Nat) (ps : List ProdM) (nn base : Nat) (x : Int × Int) (v : Value) (w' : World) : Prop := ∃ L, OkY L ∧ YIs nl ps L ∧ ((∃ i, i < nn ∧ L i = none ∧ (∀ k, k < i → L k ≠ none) ∧ x = (6, (i : Int)) ∧ v = .slice none 0 0) ∨ ((∀ i, i < nn → L i ≠ none) ∧ x = (0, 0) ∧ RowsO w' base v ((List.range nn).map fun i => (L i).getD [])))
def YldR (nl : Nat) (ps : List ProdM) (nn : Nat) (w : World) (e : Ending) (w' : World) : Prop := ∃ x v, e = .returned (.tuple #[v, faultV x]) ∧ YldO nl ps nn w.heap.size x v w' ∧ Kept w w'
def YlI (L : Nat → Option (List Int)) (nn g fb : Nat) (b : Nat) (W : World) (vi : Value) (wr : World) : Prop := ∃ (j : Nat) (vs : List Value) (B : Nat → Nat), vi = .int .i64 (j : Int) ∧ j ≤ nn ∧ Hid (vs.length = j) ∧ Hid (∀ k, k < j → L k ≠ none) ∧ Hid (Blk wr g (nilsTo vs nn) 41) ∧ Hid (RowsIn wr B vs ((List.range j).map fun i => (L i).getD []) ∧ g < B 0 ∧ B j ≤ wr.heap.size) ∧ Hid (SeB wr fb L) ∧ Hid (FlBox wr (b + 1) 0 0) ∧ Hid (KeptBut g W wr)
set_option linter.unusedSimpArgs false in
set_option maxRecDepth 100000 in
set_option maxHeartbeats 8000000 in
theorem yields_is (nl nn : Nat) (ps : List ProdM) (al an : Option Addr) (cl cn : Nat) (st : Int) (ap : Option Addr) (np cp : Nat) (w : World) (hnl : nl < 128) (hnn : nn ≤ 128) (hps : ps.length = np) (hp : ProdsAt w (.slice ap np cp) ps) (hok : ∀ p ∈ ps, ProdGood p) :
    Calls Tryd.prog 47 #[.agg #[.slice al nl cl, .slice an nn cn, .int .i64 st, .slice ap np cp]] w (YldR nl ps nn w) := by
  obtain ⟨h1, h2, h3⟩ := chk_start w (.slice al nl cl) (.slice an nn cn) (.int .i64 st) (.slice ap np cp)
  have HB := hide1 h1
  have HF := hide1 h2
  have HK := hide1 h3
  have HC := hide1 (shortest_is nl ps al cl (.slice an nn cn) st ap np cp _ hnl hps (hp.keep h3) hok)
  have gn : (nn : Int) ≤ 128 := by omega
  clear h1 h2 h3 hp hps hok hnl
  go_enter Tryd.func47, Tryd.ntmps47
  go_upto_region 1 with fail
  obtain ⟨W, hW⟩ : ∃ W, (w.alloc (.cells #[.slice al nl cl, .slice an nn cn, .int .i64 st, .slice ap np cp] 26)).alloc (.cells #[.int .i64 0, .int .i64 0, .string ⟨#[]⟩] 44) = W := ⟨_, rfl⟩
  rw [hW] at HB HF HK HC ⊢
  clear hW
  obtain ⟨b, hb⟩ : ∃ b, w.heap.size = b := ⟨_, rfl⟩
  rw [hb] at HB HF ⊢
  have HSZ := hide1 hb
  clear hb
  obtain ⟨s0, s1, s2, s3⟩ := HB.out.facts
  go_upto_region 2 with (first
    | (go_at_call 80; refine HC.out.mono ?_; rintro e w6 ⟨L, rfl, hok6, hy6, hk6⟩; have HLO := hide1 hok6; have HLY := hide1 hy6; have HK6 := hide1 hk6; clear hok6 hy6 hk6)
    | (refine wpList_store_row rfl 132 _ _ rfl w6.heap.size (senL L).toArray rfl rfl 132 (senL fun _ => none).toArray (by exact sen_zero w6) (sen_size L) (sen_sizes _ _) (senL_all L) ?_))
  clear s0 s1 s2 s3
  have HS7 : Hid (SeB ((w6.alloc (.cells Tryd.zeroCells132 132)).setRow w6.heap.size (senL L).toArray) w6.heap.size L) := setRow_heap _ _ _ _ _ _ (sen_zero w6)
  have HK7 : Hid (Kept W ((w6.alloc (.cells Tryd.zeroCells132 132)).setRow w6.heap.size (senL L).toArray)) := KeptBut.up (gtrans HK6.out ((Kept.refl w6).alloc _ _)) HK6.out.size (setRow_butS _ _ _)
  obtain ⟨W7, hW7⟩ : ∃ W7, (w6.alloc (.cells Tryd.zeroCells132 132)).setRow w6.heap.size (senL L).toArray = W7 := ⟨_, rfl⟩
  rw [hW7] at HS7 HK7 ⊢
  clear hW7
  obtain ⟨fb, hfb⟩ : ∃ fb, w6.heap.size = fb := ⟨_, rfl⟩
  rw [hfb] at HS7 ⊢
  clear hfb
  have HB7 := hide1 (HB.out.keep HK7.out)
  have HF7 := hide1 (HF.out.keep HK7.out)
  obtain ⟨s0, s1, s2, s3⟩ := HB7.out.facts
  have hmk := run_rows nn (by omega) W7
  go_upto_region 3 with fail
  clear s0 s1 s2 s3 hmk
  have HK8 : Hid (Kept W7 (W7.alloc (.cells (Array.replicate nn (.slice none 0 0)) 41))) := (Kept.refl _).alloc _ _
  have HG8 : Hid (Blk (W7.alloc (.cells (Array.replicate nn (.slice none 0 0)) 41)) W7.heap.size (nilsTo [] nn) 41) := by
    show Blk _ _ _ _
    unfold Blk
    rw [heap_alloc_new]
    simp [nilsTo]
  have HFG : Hid (fb < W7.heap.size) := HS7.out.lt
  have HBG : Hid (b + 1 < W7.heap.size) := HF7.out.lt
  have HWG : Hid (w.heap.size ≤ W7.heap.size) := (gtrans HK.out HK7.out).size
  have HZ8 : Hid ((W7.alloc (.cells (Array.replicate nn (.slice none 0 0)) 41)).heap.size = W7.heap.size + 1) := World.size_alloc _ _
  obtain ⟨W8, hW8⟩ : ∃ W8, W7.alloc (.cells (Array.replicate nn (.slice none 0 0)) 41) = W8 := ⟨_, rfl⟩
  rw [hW8] at HK8 HG8 HZ8 ⊢
  clear hW8
  obtain ⟨g, hg⟩ : ∃ g, W7.heap.size = g := ⟨_, rfl⟩
  rw [hg] at HG8 HFG HBG HWG HZ8 ⊢
  clear hg
  have HS8 := hide1 (HS7.out.keep HK8.out)
  have HF8 := hide1 (HF7.out.keep HK8.out)
  have HKW := hide1 (gtrans (gtrans HK.out HK7.out) HK8.out)
  go_wp2_with fail
  go_loopw [15] (YlI L nn g fb b W8) (fun i _ => nn - (intOf i).toNat)
  case atStart => exact ⟨0, [], fun _ => g + 1, rfl, Nat.zero_le _, rfl, fun k hk => by omega, HG8, ⟨RowsIn.nil W8 (g + 1), Nat.lt_succ_self g, by rw [HZ8.out]; exact Nat.le_refl _⟩, HS8, HF8, but_refl g W8⟩
  case round =>
    obtain ⟨j, vs, B, rfl, hj, HVL, HNO, HGr, HRr, HSr, HFr, HKr⟩ := hrel
    have HKw : Hid (Kept w wr) := KeptBut.up HKW.out HWG.out HKr.out
    by_cases hlt : (j : Int) < (nn : Int)
    · have hj8 : j < 128 := by omega
      obtain ⟨c0, c1⟩ := HSr.out.cells hj8
      have HJN : Hid (j < nn) := by show _ < _; omega
      have g8 : (j : Int) < 128 := by omega
      cases hLj : L j with
      | none =>
        rw [hLj] at c0 c1
        rw [show (none : Option (List Int)).isSome = false from rfl] at c0
        have HLJ := hide1 hLj
        obtain ⟨⟨f0, f1, f2⟩, z0, z1, z2⟩ := HFr.out.cells
        clear hLj c1
        go_wp2_with fail
        refine bodyPost_ret (results_tmp_row rfl _ _ (b + 1) 44 _ (0, 0) _ rfl (HFr.out.fill 6 (j : Int)) Tryd.underlying44 rfl (fault_size _ _)) rfl ?_
        exact ⟨(6, (j : Int)), .slice none 0 0, rfl, ⟨L, HLO.out, HLY.out, .inl ⟨j, HJN.out, HLJ.out, HNO.out, rfl, rfl⟩⟩, keepB (keepB (keepB HKw.out (by rw [HSZ.out]; omega)) (by rw [HSZ.out]; omega)) (by rw [HSZ.out]; omega)⟩
      | some zs =>
        rw [hLj] at c0 c1
        rw [show (some zs).isSome = true from rfl] at c0
        rw [show (some zs).getD [] = zs from rfl] at c1
        obtain ⟨hzb, hzl⟩ := HLO.out j zs hLj
        have HZB := hide1 hzb
        have HLJ := hide1 hLj
        obtain ⟨n5, hn5⟩ : ∃ n5, zs.length = n5 := ⟨_, rfl⟩
        rw [hn5] at hzl
        have HN5 := hide1 hn5
        have HZL := hide1 hzl
        have HAT : Hid ((nilsTo vs nn)[j]? = some (.slice none 0 0)) := by
          have h := nilsTo_at (vs := vs) (n := nn) (by rw [HVL.out]; exact HJN.out)
          rw [HVL.out] at h
          exact h
        clear hLj hzb hzl hn5
        go_upto_region 9 with (first
          | (go_at_call 81; refine (snList_is true zs n5 HN5.out HZB.out HZL.out _).mono ?_; rintro e w5 ⟨⟨v5, rfl, ho5⟩, hk5⟩; obtain ⟨a5, c5, hv5⟩ := ho5.form; rw [HN5.out] at hv5; subst hv5; have HO5 := hide1 ho5; have HK5 := hide1 hk5; have HG5 := hide1 (HGr.out.keep hk5); have hat := HG5.out.cell HAT.out; have hfr := HG5.out.free j; clear ho5 hk5))
        clear hat hfr c0 c1
        have HG6 : Hid (Blk (w5.setCell ⟨g, j, none⟩ (.slice a5 n5 c5)) g (nilsTo (vs ++ [(.slice a5 n5 c5)]) nn) 41) := by
          have h := HG5.out.set j (.slice a5 n5 c5)
          have e := nilsTo_set (vs := vs) (n := nn) (by rw [HVL.out]; exact HJN.out) (.slice a5 n5 c5)
          rw [HVL.out] at e
          rw [e] at h
          exact h
        have HBU : Hid (KeptBut g w5 (w5.setCell ⟨g, j, none⟩ (.slice a5 n5 c5))) := but_set (but_refl g w5) _ _
        have HR6 : Hid (RowsIn (w5.setCell ⟨g, j, none⟩ (.slice a5 n5 c5)) (fun i => if i < vs.length then B i else if i = vs.length then wr.heap.size else w5.heap.size) (vs ++ [(.slice a5 n5 c5)]) ((List.range (j + 1)).map fun i => (L i).getD []) ∧ g < (if 0 < vs.length then B 0 else if 0 = vs.length then wr.heap.size else w5.heap.size) ∧ (if j + 1 < vs.length then B (j + 1) else if j + 1 = vs.length then wr.heap.size else w5.heap.size) ≤ (w5.setCell ⟨g, j, none⟩ (.slice a5 n5 c5)).heap.size) := by
          have hgl : g < wr.heap.size := HGr.out.lt
          have h0 : g < (if 0 < vs.length then B 0 else if 0 = vs.length then wr.heap.size else w5.heap.size) := by
            by_cases e : 0 < vs.length
            · rw [if_pos e]; exact HRr.out.2.1
            · rw [if_neg e, if_pos (by omega)]; exact hgl
          have h5 := (HRr.out.1.keep HK5.out).snoc (H := wr.heap.size) (H' := w5.heap.size) (by rw [HVL.out]; exact HRr.out.2.2) HK5.out.size HO5.out (fun d hd => (HO5.out.lt d hd).2)
          refine ⟨?_, h0, ?_⟩
          · rw [List.range_succ, List.map_append]
            show RowsIn _ _ _ (_ ++ [(L j).getD []])
            rw [HLJ.out]
            exact h5.but HBU.out h0
          · rw [if_neg (by rw [HVL.out]; omega), if_neg (by rw [HVL.out]; omega)]
            simp [World.setCell]
        have HNO6 : Hid (∀ k, k < j + 1 → L k ≠ none) := fun k hk => by
          by_cases e : k = j
          · rw [e, HLJ.out]; simp
          · exact HNO.out k (by omega)
        have HS6 := hide1 ((HSr.out.keep HK5.out).but HBU.out (by have := HFG.out; omega))
        have HF6 := hide1 ((HFr.out.keep HK5.out).but HBU.out (by have := HBG.out; omega))
        have HK6b := hide1 ((HK5.out.but g).trans HBU.out)
        obtain ⟨W6, hW6⟩ : ∃ W6, w5.setCell ⟨g, j, none⟩ (.slice a5 n5 c5) = W6 := ⟨_, rfl⟩
        rw [hW6] at HG6 HR6 HS6 HF6 HK6b ⊢
        clear hW6 HBU
        go_wp2_with fail
        go_roundw
        case rel => exact ⟨j + 1, vs ++ [(.slice a5 n5 c5)], _, by go_num, HJN.out, by show _ = _; rw [List.length_append, HVL.out]; rfl, HNO6, HG6, HR6, HS6, HF6, HKr.out.trans HK6b.out⟩
        case measure => simp [intOf]; omega
    · have hjn : j = nn := by omega
      subst hjn
      obtain ⟨⟨f0, f1, f2⟩, z0, z1, z2⟩ := HFr.out.cells
      go_wp2_with fail
      refine bodyPost_ret (results_tmp_row rfl _ _ (b + 1) 44 _ (0, 0) _ rfl (HFr.out.fill 0 0) Tryd.underlying44 rfl (fault_size _ _)) rfl ?_
      have HROW : Hid (RowsO wr w.heap.size (.slice (some ⟨g, 0, none⟩) j j) ((List.range j).map fun i => (L i).getD [])) := by
        refine ⟨g, vs, B, ?_, HWG.out, HRr.out.2.1, ?_, HRr.out.1⟩
        · rw [List.length_map, List.length_range]
        · have h := HGr.out
          rw [← HVL.out, nilsTo_all] at h
          exact h
      have HBU : Hid (KeptBut (b + 1) wr (((wr.setCell ⟨b + 1, 0, none⟩ (.int .i64 0)).setCell ⟨b + 1, 1, none⟩ (.int .i64 0)).setCell ⟨b + 1, 2, none⟩ (.string ⟨#[]⟩))) := but_set (but_set (but_set (but_refl (b + 1) wr) _ _) _ _) _ _
      refine ⟨(0, 0), _, rfl, ⟨L, HLO.out, HLY.out, .inr ⟨HNO.out, rfl, ?_⟩⟩, KeptBut.up HKw.out (by rw [HSZ.out]; omega) HBU.out⟩
      obtain ⟨g', vs', B', h1, h2, h3, h4, h5⟩ := HROW.out
      have e1 : g' = g := by
        have h := h1
        rw [List.length_map, List.length_range] at h
        injection h with h _ _
        injection h with h
        injection h with h
        exact h.symm
      have hbg := HBG.out
      refine ⟨g', vs', B', h1, h2, h3, h4.but HBU.out (by omega), h5.but HBU.out (by omega)⟩

end Ex
end Go.Proofs.YtooelfjceehmmaaDoor
namespace Go.Proofs.YtooelfjceehmmaaDoor
open Go.RowKit
attribute [local go_sem] Oper.semAt_some
namespace Ex

def AskY {k : Nat} (lex : List (LexM k)) (ps : List ProdM) (nn nl : Nat) (st : Int) (w : World) (e : Ending) (w' : World) : Prop := ∃ x : Int × Int, CheckQ lex ps nn nl st x ∧ Kept w w' ∧ ((x.1 ≠ 0 ∧ e = .returned (.tuple #[.slice none 0 0, faultV x])) ∨ (x.1 = 0 ∧ ∃ y v, e = .returned (.tuple #[v, faultV y]) ∧ YldO nl ps nn w.heap.size y v w'))
theorem YldO.but {nl nn base c : Nat} {ps : List ProdM} {x : Int × Int} {v : Value} {w w' : World} (h : YldO nl ps nn base x v w) (hk : KeptBut c w w') (hc : c < base) : YldO nl ps nn base x v w' := by
  obtain ⟨L, h1, h2, h3⟩ := h
  refine ⟨L, h1, h2, h3.imp id (fun h3 => ⟨h3.1, h3.2.1, h3.2.2.but hk hc⟩)⟩
theorem YldO.down {nl nn base base' : Nat} {ps : List ProdM} {x : Int × Int} {v : Value} {w : World} (h : YldO nl ps nn base x v w) (hb : base' ≤ base) : YldO nl ps nn base' x v w := by
  obtain ⟨L, h1, h2, h3⟩ := h
  refine ⟨L, h1, h2, h3.imp id (fun h3 => ⟨h3.1, h3.2.1, h3.2.2.down hb⟩)⟩
set_option linter.unusedSimpArgs false in
set_option maxRecDepth 100000 in
set_option maxHeartbeats 8000000 in
/-- Yields of any spec. -/
theorem sYields_is (k : Nat) (lex : List (LexM k)) (ps : List ProdM) (al an ap : Option Addr) (nl cl nn cn np cp : Nat) (st : Int) (w : World) (hnn : nn ≤ 17592186044416) (hlex : lex.length = nl) (hps : ps.length = np) (hl : LexAt w k (.slice al nl cl) lex) (hp : ProdsAt w (.slice ap np cp) ps) (hT : TabAt w) :
    Calls Tryd.prog 22 #[.agg #[.slice al nl cl, .slice an nn cn, .int .i64 st, .slice ap np cp]] w (AskY lex ps nn nl st w) := by
  obtain ⟨h1, h2, h3⟩ := chk_start w (.slice al nl cl) (.slice an nn cn) (.int .i64 st) (.slice ap np cp)
  have HB := hide1 h1
  have HF := hide1 h2
  have HK := hide1 h3
  have HC := hide1 (sCheck_is k lex ps al an ap nl cl nn cn np cp st _ hnn hlex hps (hl.keep h3) (hp.keep h3))
  have HP := hide1 hp
  have HPS := hide1 hps
  have HLEN := hide1 hlex
  have HT := hide1 hT
  clear h1 h2 h3 hp hps hl hlex hnn hT
  go_enter Tryd.func22, Tryd.ntmps22
  go_upto_region 1 with fail
  obtain ⟨W, hW⟩ : ∃ W, (w.alloc (.cells #[.slice al nl cl, .slice an nn cn, .int .i64 st, .slice ap np cp] 26)).alloc (.cells #[.int .i64 0, .int .i64 0, .string ⟨#[]⟩] 44) = W := ⟨_, rfl⟩
  rw [hW] at HB HF HK HC ⊢
  clear hW
  obtain ⟨b, hb⟩ : ∃ b, w.heap.size = b := ⟨_, rfl⟩
  rw [hb] at HB HF ⊢
  have HSZ := hide1 hb
  clear hb
  obtain ⟨s0, s1, s2, s3⟩ := HB.out.facts
  go_upto_region 2 with (go_at_call 27; refine HC.out.mono ?_; rintro e w6 ⟨⟨xe, xa⟩, rfl, hq6, hk6⟩; rw [faultV_eq]; have HQ6 := hide1 hq6; have HK6 := hide1 hk6; clear hq6 hk6)
  clear s0 s1 s2 s3
  have HXB : Hid (FlBox (w6.alloc (.cells #[.int .i64 xe, .int .i64 xa, .string ⟨#[]⟩] 44)) w6.heap.size xe xa) := heap_alloc_new w6 _
  have HK7 := hide1 (gtrans HK6.out ((Kept.refl w6).alloc #[.int .i64 xe, .int .i64 xa, .string ⟨#[]⟩] 44))
  obtain ⟨W7, hW7⟩ : ∃ W7, w6.alloc (.cells #[.int .i64 xe, .int .i64 xa, .string ⟨#[]⟩] 44) = W7 := ⟨_, rfl⟩
  rw [hW7] at HXB HK7 ⊢
  clear hW7
  have HXW : Hid (W.heap.size ≤ w6.heap.size) := HK6.out.size
  obtain ⟨xb, hxb⟩ : ∃ xb, w6.heap.size = xb := ⟨_, rfl⟩
  rw [hxb] at HXB HXW ⊢
  clear hxb
  have HXD : Hid (xb ≠ b + 1) := by have := HF.out.lt; have := HXW.out; show _ ≠ _; omega
  have HF7 := hide1 (HF.out.keep HK7.out)
  have HB7 := hide1 (HB.out.keep HK7.out)
  have HKw7 := hide1 (gtrans HK.out HK7.out)
  have x0 := HXB.out.cells.1.1
  by_cases hx0 : xe = 0
  · subst hx0
    have HPA := hide1 (checkQ_ok HQ6.out rfl)
    have HFA := hide1 (HPA.out.2.1.facts HLEN.out (Nat.le_refl 2))
    obtain ⟨s0, s1, s2, s3⟩ := HB7.out.facts
    have HBL : Hid (b + 1 < W7.heap.size) := HF7.out.lt
    go_wp2_with (go_at_call 47; refine (yields_is nl nn ps al an cl cn st ap np cp _ (by have := HFA.out.1; omega) (by have := HFA.out.1; omega) HPS.out (HP.out.keep HKw7.out) HFA.out.2.1).mono ?_; rintro e w8 ⟨⟨ye, ya⟩, v8, rfl, hy8, hk8⟩; rw [faultV_eq]; have HY8 := hide1 hy8; have HK8 := hide1 hk8; have HF8 := hide1 (HF7.out.keep hk8); obtain ⟨⟨f0, f1, f2⟩, z0, z1, z2⟩ := HF8.out.cells; clear hy8 hk8)
    refine bodyPost_ret (results_tmp_row rfl _ _ (b + 1) 44 _ (0, 0) _ rfl (HF8.out.fill ye ya) Tryd.underlying44 rfl (fault_size _ _)) rfl ?_
    have HBU : Hid (KeptBut (b + 1) w8 (((w8.setCell ⟨b + 1, 0, none⟩ (.int .i64 ye)).setCell ⟨b + 1, 1, none⟩ (.int .i64 ya)).setCell ⟨b + 1, 2, none⟩ (.string ⟨#[]⟩))) := but_set (but_set (but_set (but_refl (b + 1) w8) _ _) _ _) _ _
    exact ⟨(0, xa), HQ6.out, KeptBut.up (gtrans HKw7.out HK8.out) (by rw [HSZ.out]; omega) HBU.out, .inr ⟨rfl, (ye, ya), v8, rfl, (HY8.out.but HBU.out HBL.out).down HKw7.out.size⟩⟩
  · have b0 : (xe != 0) = true := by simpa using hx0
    have HNX : Hid (xe ≠ 0) := hx0
    clear hx0
    go_upto_region 3 with fail
    clear x0
    refine wp_region_held_drew (S := fun X => KeptBut (b + 1) W7 X) (by kernel_rfl) (but_refl (b + 1) W7) (fun hHeld => ?_)
    refine wpAnyH_take (i := 0) (v := .agg #[.int .i64 xe, .int .i64 xa, .string ⟨#[]⟩]) rfl (by kernel_rfl) (by kernel_rfl) (by kernel_rfl) (fun _ _ _ h => h) (Or.inl ⟨by rfl, fun w' hSw => ?_⟩) (by with_reducible assumption) ?_
    · obtain ⟨⟨s0, s1, s2⟩, _⟩ := (HXB.out.but hSw HXD.out).cells
      clear hSw
      go_simp
    try simp only [Act.put, List.setIfInBounds_toArray, List.set_cons_zero, List.set_cons_succ]
    refine wpAnyH_take (i := 1) (v := .slice none 0 0) rfl (by kernel_rfl) (by kernel_rfl) (by kernel_rfl) (fun _ _ _ h => h) (Or.inl ⟨by rfl, fun w' hSw => ?_⟩) (by with_reducible assumption) ?_
    · clear hSw
      go_simp
    try simp only [Act.put, List.setIfInBounds_toArray, List.set_cons_zero, List.set_cons_succ]
    have HKX := hide1 (drew_kept W7)
    obtain ⟨X0, hX0⟩ : ∃ X0, W7.drew = X0 := ⟨_, rfl⟩
    rw [hX0] at hHeld HKX ⊢
    clear hX0
    refine wpAnyH_ready (rs := [2]) (by kernel_rfl) (by simp) ?_
    refine AllReadyH.cons (i := 2) rfl (fun K hK => ?_) AllReadyH.nil
    obtain ⟨⟨f0, f1, f2⟩, z0, z1, z2⟩ := (HF7.out.keep HKX.out).cells
    go_simp
    clear f0 f1 f2 z0 z1 z2
    have HF8 := hide1 ((HF7.out.keep HKX.out).fill xe xa)
    have HK8 : Hid (KeptBut (b + 1) W7 (((X0.setCell ⟨b + 1, 0, none⟩ (.int .i64 xe)).setCell ⟨b + 1, 1, none⟩ (.int .i64 xa)).setCell ⟨b + 1, 2, none⟩ (.string ⟨#[]⟩))) := but_set (but_set (but_set (HKX.out.but (b + 1)) _ _) _ _) _ _
    refine hK.out _ _ HK8.out (fun hHeld2 => ?_)
    clear hK K hHeld
    have hHeld := hHeld2
    clear hHeld2
    try simp only [Act.put, List.setIfInBounds_toArray, List.set_cons_zero, List.set_cons_succ]
    refine wpAnyH_done (by kernel_rfl) ?_ _
    clear hHeld
    go_wp2_with fail
    refine bodyPost_ret (results_tmp_row rfl _ _ (b + 1) 44 _ (0, 0) _ rfl HF8.out Tryd.underlying44 rfl (fault_size _ _)) rfl ?_
    exact ⟨(xe, xa), HQ6.out, KeptBut.up HKw7.out (by rw [HSZ.out]; omega) HK8.out, .inl ⟨HNX.out, rfl⟩⟩

end Ex
end Go.Proofs.YtooelfjceehmmaaDoor
