import Derived.Test.YtooelfjceehmmaaDoorMSpDc
import Derived.Test.YtooelfjceehmmaaDoorMSpCl
namespace Go.Proofs.YtooelfjceehmmaaDoor
open Go.RowKit
attribute [local go_sem] Oper.semAt_some
namespace Ex

/-- A list of bools of the call's own. -/
def BoolsO (w : World) (base : Nat) (v : Value) (ms : List Bool) : Prop := ∃ g, v = .slice (some ⟨g, 0, none⟩) ms.length ms.length ∧ base ≤ g ∧ TabB w g ms
def NullOk (ps : List ProdM) (nn base : Nat) (v : Value) (w' : World) : Prop := ∃ E : Nat, (∀ n, E.testBit n = true ↔ Mk false ps n) ∧ BoolsO w' base v ((List.range nn).map fun i => E.testBit i)
def falsTo (ms : List Bool) (n : Nat) : List Bool := ms ++ List.replicate (n - ms.length) false
theorem falsTo_set {ms : List Bool} {n : Nat} (h : ms.length < n) (x : Bool) : (falsTo ms n).set ms.length x = falsTo (ms ++ [x]) n := by
  unfold falsTo
  obtain ⟨m, hm⟩ : ∃ m, n - ms.length = m + 1 := ⟨n - ms.length - 1, by omega⟩
  rw [hm, List.length_append, show n - (ms.length + [x].length) = m by simp; omega, List.set_append_right _ _ (Nat.le_refl _), Nat.sub_self, List.replicate_succ]
  simp
theorem falsTo_at {ms : List Bool} {n : Nat} (h : ms.length < n) : (falsTo ms n)[ms.length]? = some false := by
  unfold falsTo
  obtain ⟨m, hm⟩ : ∃ m, n - ms.length = m + 1 := ⟨n - ms.length - 1, by omega⟩
  rw [hm, List.getElem?_append_right (Nat.le_refl _), Nat.sub_self, List.replicate_succ]
  rfl
theorem falsTo_all {ms : List Bool} : falsTo ms ms.length = ms := by simp [falsTo]
theorem TabB.put {w : World} {g i : Nat} {ms : List Bool} (h : TabB w g ms) (x : Bool) : TabB (w.setCell ⟨g, i, none⟩ (.bool x)) g (ms.set i x) := by
  unfold TabB at h ⊢
  have hl : g < w.heap.size := (Array.getElem?_eq_some_iff.1 h).1
  have he : w.heap[g] = Obj.cells (ms.map Value.bool).toArray 4 (0, 0) := by rw [Array.getElem?_eq_getElem hl] at h; exact Option.some.inj h
  simp [World.setCell, Array.getElem_modify, hl, he, List.map_set]
theorem TabB.blk {w : World} {g : Nat} {ms : List Bool} (h : TabB w g ms) : Blk w g (ms.map Value.bool) 4 := h
def NuI (E nn g eb b : Nat) (W : World) (vi : Value) (wr : World) : Prop := ∃ j : Nat, vi = .int .i64 (j : Int) ∧ j ≤ nn ∧ Hid (TabB wr g (falsTo ((List.range j).map fun i => E.testBit i) nn)) ∧ Hid (SetB wr eb E) ∧ Hid (FlBox wr (b + 1) 0 0) ∧ Hid (KeptBut g W wr)
set_option linter.unusedSimpArgs false in
set_option maxRecDepth 100000 in
set_option maxHeartbeats 8000000 in
/-- First of any spec. -/
theorem sFirst_is (k : Nat) (lex : List (LexM k)) (ps : List ProdM) (al an ap : Option Addr) (nl cl nn cn np cp : Nat) (st : Int) (w : World) (hnn : nn ≤ 17592186044416) (hlex : lex.length = nl) (hps : ps.length = np) (hl : LexAt w k (.slice al nl cl) lex) (hp : ProdsAt w (.slice ap np cp) ps) (hT : TabAt w) :
    Calls Tryd.prog 20 #[.agg #[.slice al nl cl, .slice an nn cn, .int .i64 st, .slice ap np cp]] w (AskR lex ps nn nl st (FirstOk nl ps nn w.heap.size) w) := by
  obtain ⟨h1, h2, h3⟩ := chk_start w (.slice al nl cl) (.slice an nn cn) (.int .i64 st) (.slice ap np cp)
  have HB := hide1 h1
  have HF := hide1 h2
  have HK := hide1 h3
  have HC := hide1 (sCheck_is k lex ps al an ap nl cl nn cn np cp st _ hnn hlex hps (hl.keep h3) (hp.keep h3))
  have HP := hide1 hp
  have HPS := hide1 hps
  have HLEN := hide1 hlex
  have HT := hide1 hT
  clear h1 h2 h3 hp hps hl hlex hnn hT
  go_enter Tryd.func20, Tryd.ntmps20
  go_upto_region 1 with fail
  obtain ⟨W, hW⟩ : ∃ W, (w.alloc (.cells #[.slice al nl cl, .slice an nn cn, .int .i64 st, .slice ap np cp] 26)).alloc (.cells #[.int .i64 0, .int .i64 0, .string ⟨#[]⟩] 44) = W := ⟨_, rfl⟩
  rw [hW] at HB HF HK HC ⊢
  clear hW
  obtain ⟨b, hb⟩ : ∃ b, w.heap.size = b := ⟨_, rfl⟩
  rw [hb] at HB HF ⊢
  have HSZ := hide1 hb
  clear hb
  obtain ⟨s0, s1, s2, s3⟩ := HB.out.facts
  go_upto_region 2 with (go_at_call 27; refine HC.out.mono ?_; rintro e w6 ⟨⟨xe, xa⟩, rfl, hq6, hk6⟩; rw [faultV_eq]; have HQ6 := hide1 hq6; have HK6 := hide1 hk6; clear hq6 hk6)
  clear s0 s1 s2 s3
  have HXB : Hid (FlBox (w6.alloc (.cells #[.int .i64 xe, .int .i64 xa, .string ⟨#[]⟩] 44)) w6.heap.size xe xa) := heap_alloc_new w6 _
  have HK7 := hide1 (gtrans HK6.out ((Kept.refl w6).alloc #[.int .i64 xe, .int .i64 xa, .string ⟨#[]⟩] 44))
  obtain ⟨W7, hW7⟩ : ∃ W7, w6.alloc (.cells #[.int .i64 xe, .int .i64 xa, .string ⟨#[]⟩] 44) = W7 := ⟨_, rfl⟩
  rw [hW7] at HXB HK7 ⊢
  clear hW7
  have HXW : Hid (W.heap.size ≤ w6.heap.size) := HK6.out.size
  obtain ⟨xb, hxb⟩ : ∃ xb, w6.heap.size = xb := ⟨_, rfl⟩
  rw [hxb] at HXB HXW ⊢
  clear hxb
  have HXD : Hid (xb ≠ b + 1) := by have := HF.out.lt; have := HXW.out; show _ ≠ _; omega
  have HF7 := hide1 (HF.out.keep HK7.out)
  have HB7 := hide1 (HB.out.keep HK7.out)
  have HKw7 := hide1 (gtrans HK.out HK7.out)
  have x0 := HXB.out.cells.1.1
  by_cases hx0 : xe = 0
  · subst hx0
    have HPA := hide1 (checkQ_ok HQ6.out rfl)
    have HFA := hide1 (HPA.out.2.1.facts HLEN.out (Nat.le_refl 2))
    obtain ⟨stn, rfl⟩ : ∃ stn : Nat, st = (stn : Int) := ⟨st.toNat, by have := HFA.out.1; omega⟩
    have HSTN : Hid (stn < 128) := by have := HFA.out.1; show _ < _; omega
    obtain ⟨s0, s1, s2, s3⟩ := HB7.out.facts
    go_upto_region 5 with (first
      | (go_at_call 30; refine (gNew_is nl ps al an ap cl nn cn np cp _ _ (by have := HFA.out.1; omega) HPS.out (HP.out.keep HKw7.out) HFA.out.2.1).mono ?_; rintro e w8 ⟨E, F, rfl, hE, hF, hFi, hk8⟩; have HE := hide1 hE; have HFB := hide1 hF; have HFI := hide1 hFi; have HK8 := hide1 hk8; clear hE hF hFi hk8)
      | (refine wpList_store_row rfl 81 _ _ rfl w8.heap.size (grL (.slice al nl cl) (.slice an nn cn) (.int .i64 (stn : Int)) (.slice ap np cp) E F).toArray rfl rfl 81 (grL (.slice none 0 0) (.slice none 0 0) (.int .i64 0) (.slice none 0 0) 0 fun _ => 0).toArray (by exact gr_zero w8) (gr_size _ _ _ _ E F) (gr_sizes _ _ _ _ _ _ _ _ _ _ _ _) (gr_one ⟨rfl, rfl, rfl, rfl⟩) ?_))
    clear s0 s1 s2 s3
    have HG9 : Hid (GrB ((w8.alloc (.cells Tryd.zeroCells81 81)).setRow w8.heap.size (grL (.slice al nl cl) (.slice an nn cn) (.int .i64 (stn : Int)) (.slice ap np cp) E F).toArray) w8.heap.size (.slice al nl cl) (.slice an nn cn) (.int .i64 (stn : Int)) (.slice ap np cp) E F) := setRow_heap _ _ _ _ _ _ (gr_zero w8)
    have HK9 : Hid (Kept W7 ((w8.alloc (.cells Tryd.zeroCells81 81)).setRow w8.heap.size (grL (.slice al nl cl) (.slice an nn cn) (.int .i64 (stn : Int)) (.slice ap np cp) E F).toArray)) := KeptBut.up (gtrans HK8.out ((Kept.refl w8).alloc _ _)) HK8.out.size (setRow_butS _ _ _)
    have HGL : Hid (W7.heap.size ≤ w8.heap.size) := HK8.out.size
    obtain ⟨W9, hW9⟩ : ∃ W9, (w8.alloc (.cells Tryd.zeroCells81 81)).setRow w8.heap.size (grL (.slice al nl cl) (.slice an nn cn) (.int .i64 (stn : Int)) (.slice ap np cp) E F).toArray = W9 := ⟨_, rfl⟩
    rw [hW9] at HG9 HK9 ⊢
    clear hW9
    obtain ⟨gb, hgb⟩ : ∃ gb, w8.heap.size = gb := ⟨_, rfl⟩
    rw [hgb] at HG9 HGL ⊢
    clear hgb
    have HF9 := hide1 (HF7.out.keep HK9.out)
    have HB9 := hide1 (HB7.out.keep HK9.out)
    have HKw9 := hide1 (gtrans HKw7.out HK9.out)
    have HBL : Hid (b + 1 < W9.heap.size) := HF9.out.lt
    obtain ⟨s0, s1, s2, s3⟩ := HB9.out.facts
    have HRG := hide1 (GrB.range HG9.out)
    go_wp2_with (first
      | (refine wpList_load_mid rfl 79 _ rfl gb 6 rfl (famL F) _ HRG.out Tryd.underlying79 rfl (fam_size F) ?_)
      | (go_at_call 45; refine (lists_is F _ _ _ an nn cn _ (by have := HFA.out.1; omega) (HT.out.keep HKw9.out)).mono ?_; rintro e w11 ⟨⟨v11, rfl, ho11⟩, hk11⟩; have HV11 := hide1 ho11; have HK11 := hide1 hk11; have HF11 := hide1 (HF9.out.keep hk11); obtain ⟨⟨f0, f1, f2⟩, z0, z1, z2⟩ := HF11.out.cells; clear ho11 hk11))
    refine bodyPost_ret (results_tmp_row rfl _ _ (b + 1) 44 _ (0, 0) _ rfl (HF11.out.fill 0 0) Tryd.underlying44 rfl (fault_size _ _)) rfl ?_
    have HBU : Hid (KeptBut (b + 1) w11 (((w11.setCell ⟨b + 1, 0, none⟩ (.int .i64 0)).setCell ⟨b + 1, 1, none⟩ (.int .i64 0)).setCell ⟨b + 1, 2, none⟩ (.string ⟨#[]⟩))) := but_set (but_set (but_set (but_refl (b + 1) w11) _ _) _ _) _ _
    exact ⟨(0, xa), HQ6.out, KeptBut.up (gtrans HKw9.out HK11.out) (by rw [HSZ.out]; omega) HBU.out, .inr ⟨rfl, _, rfl, F, HFB.out, HFI.out, (HV11.out.but HBU.out HBL.out).down HKw9.out.size⟩⟩
  · have b0 : (xe != 0) = true := by simpa using hx0
    have HNX : Hid (xe ≠ 0) := hx0
    clear hx0
    go_upto_region 3 with fail
    clear x0
    refine wp_region_held_drew (S := fun X => KeptBut (b + 1) W7 X) (by kernel_rfl) (but_refl (b + 1) W7) (fun hHeld => ?_)
    refine wpAnyH_take (i := 0) (v := .agg #[.int .i64 xe, .int .i64 xa, .string ⟨#[]⟩]) rfl (by kernel_rfl) (by kernel_rfl) (by kernel_rfl) (fun _ _ _ h => h) (Or.inl ⟨by rfl, fun w' hSw => ?_⟩) (by with_reducible assumption) ?_
    · obtain ⟨⟨s0, s1, s2⟩, _⟩ := (HXB.out.but hSw HXD.out).cells
      clear hSw
      go_simp
    try simp only [Act.put, List.setIfInBounds_toArray, List.set_cons_zero, List.set_cons_succ]
    refine wpAnyH_take (i := 1) (v := .slice none 0 0) rfl (by kernel_rfl) (by kernel_rfl) (by kernel_rfl) (fun _ _ _ h => h) (Or.inl ⟨by rfl, fun w' hSw => ?_⟩) (by with_reducible assumption) ?_
    · clear hSw
      go_simp
    try simp only [Act.put, List.setIfInBounds_toArray, List.set_cons_zero, List.set_cons_succ]
    have HKX := hide1 (drew_kept W7)
    obtain ⟨X0, hX0⟩ : ∃ X0, W7.drew = X0 := ⟨_, rfl⟩
    rw [hX0] at hHeld HKX ⊢
    clear hX0
    refine wpAnyH_ready (rs := [2]) (by kernel_rfl) (by simp) ?_
    refine AllReadyH.cons (i := 2) rfl (fun K hK => ?_) AllReadyH.nil
    obtain ⟨⟨f0, f1, f2⟩, z0, z1, z2⟩ := (HF7.out.keep HKX.out).cells
    go_simp
    clear f0 f1 f2 z0 z1 z2
    have HF8 := hide1 ((HF7.out.keep HKX.out).fill xe xa)
    have HK8 : Hid (KeptBut (b + 1) W7 (((X0.setCell ⟨b + 1, 0, none⟩ (.int .i64 xe)).setCell ⟨b + 1, 1, none⟩ (.int .i64 xa)).setCell ⟨b + 1, 2, none⟩ (.string ⟨#[]⟩))) := but_set (but_set (but_set (HKX.out.but (b + 1)) _ _) _ _) _ _
    refine hK.out _ _ HK8.out (fun hHeld2 => ?_)
    clear hK K hHeld
    have hHeld := hHeld2
    clear hHeld2
    try simp only [Act.put, List.setIfInBounds_toArray, List.set_cons_zero, List.set_cons_succ]
    refine wpAnyH_done (by kernel_rfl) ?_ _
    clear hHeld
    go_wp2_with fail
    refine bodyPost_ret (results_tmp_row rfl _ _ (b + 1) 44 _ (0, 0) _ rfl HF8.out Tryd.underlying44 rfl (fault_size _ _)) rfl ?_
    exact ⟨(xe, xa), HQ6.out, KeptBut.up HKw7.out (by rw [HSZ.out]; omega) HK8.out, .inl ⟨HNX.out, rfl⟩⟩

set_option linter.unusedSimpArgs false in
set_option maxRecDepth 100000 in
set_option maxHeartbeats 8000000 in
/-- Nullable of any spec. -/
theorem sNull_is (k : Nat) (lex : List (LexM k)) (ps : List ProdM) (al an ap : Option Addr) (nl cl nn cn np cp : Nat) (st : Int) (w : World) (hnn : nn ≤ 17592186044416) (hlex : lex.length = nl) (hps : ps.length = np) (hl : LexAt w k (.slice al nl cl) lex) (hp : ProdsAt w (.slice ap np cp) ps) (hT : TabAt w) :
    Calls Tryd.prog 19 #[.agg #[.slice al nl cl, .slice an nn cn, .int .i64 st, .slice ap np cp]] w (AskR lex ps nn nl st (NullOk ps nn w.heap.size) w) := by
  obtain ⟨h1, h2, h3⟩ := chk_start w (.slice al nl cl) (.slice an nn cn) (.int .i64 st) (.slice ap np cp)
  have HB := hide1 h1
  have HF := hide1 h2
  have HK := hide1 h3
  have HC := hide1 (sCheck_is k lex ps al an ap nl cl nn cn np cp st _ hnn hlex hps (hl.keep h3) (hp.keep h3))
  have HP := hide1 hp
  have HPS := hide1 hps
  have HLEN := hide1 hlex
  have HT := hide1 hT
  clear h1 h2 h3 hp hps hl hlex hnn hT
  go_enter Tryd.func19, Tryd.ntmps19
  go_upto_region 1 with fail
  obtain ⟨W, hW⟩ : ∃ W, (w.alloc (.cells #[.slice al nl cl, .slice an nn cn, .int .i64 st, .slice ap np cp] 26)).alloc (.cells #[.int .i64 0, .int .i64 0, .string ⟨#[]⟩] 44) = W := ⟨_, rfl⟩
  rw [hW] at HB HF HK HC ⊢
  clear hW
  obtain ⟨b, hb⟩ : ∃ b, w.heap.size = b := ⟨_, rfl⟩
  rw [hb] at HB HF ⊢
  have HSZ := hide1 hb
  clear hb
  obtain ⟨s0, s1, s2, s3⟩ := HB.out.facts
  go_upto_region 2 with (go_at_call 27; refine HC.out.mono ?_; rintro e w6 ⟨⟨xe, xa⟩, rfl, hq6, hk6⟩; rw [faultV_eq]; have HQ6 := hide1 hq6; have HK6 := hide1 hk6; clear hq6 hk6)
  clear s0 s1 s2 s3
  have HXB : Hid (FlBox (w6.alloc (.cells #[.int .i64 xe, .int .i64 xa, .string ⟨#[]⟩] 44)) w6.heap.size xe xa) := heap_alloc_new w6 _
  have HK7 := hide1 (gtrans HK6.out ((Kept.refl w6).alloc #[.int .i64 xe, .int .i64 xa, .string ⟨#[]⟩] 44))
  obtain ⟨W7, hW7⟩ : ∃ W7, w6.alloc (.cells #[.int .i64 xe, .int .i64 xa, .string ⟨#[]⟩] 44) = W7 := ⟨_, rfl⟩
  rw [hW7] at HXB HK7 ⊢
  clear hW7
  have HXW : Hid (W.heap.size ≤ w6.heap.size) := HK6.out.size
  obtain ⟨xb, hxb⟩ : ∃ xb, w6.heap.size = xb := ⟨_, rfl⟩
  rw [hxb] at HXB HXW ⊢
  clear hxb
  have HXD : Hid (xb ≠ b + 1) := by have := HF.out.lt; have := HXW.out; show _ ≠ _; omega
  have HF7 := hide1 (HF.out.keep HK7.out)
  have HB7 := hide1 (HB.out.keep HK7.out)
  have HKw7 := hide1 (gtrans HK.out HK7.out)
  have x0 := HXB.out.cells.1.1
  by_cases hx0 : xe = 0
  · subst hx0
    have HPA := hide1 (checkQ_ok HQ6.out rfl)
    have HFA := hide1 (HPA.out.2.1.facts HLEN.out (Nat.le_refl 2))
    obtain ⟨s0, s1, s2, s3⟩ := HB7.out.facts
    go_upto_region 5 with (go_at_call 43; refine (making_is false ps _ _ _ ap np cp _ HPS.out (HP.out.keep HKw7.out) (fun p hp => ⟨(HFA.out.2.1 p hp).1, fun x hx => ((HFA.out.2.1 p hp).2 x hx).1⟩)).mono ?_; rintro e w8 ⟨E, rfl, ha8, hb8, hk8⟩; rw [setS_eq]; have HE := hide1 ha8; have HK8 := hide1 hk8; clear ha8 hb8 hk8)
    clear s0 s1 s2 s3
    have HE9 : Hid (SetB (w8.alloc (.cells #[.int .u64 (wordAt E 0 : Nat), .int .u64 (wordAt E 1 : Nat)] 75)) w8.heap.size E) := heap_alloc_new w8 _
    have HK9 := hide1 (gtrans HK8.out ((Kept.refl w8).alloc #[.int .u64 (wordAt E 0 : Nat), .int .u64 (wordAt E 1 : Nat)] 75))
    obtain ⟨W9, hW9⟩ : ∃ W9, w8.alloc (.cells #[.int .u64 (wordAt E 0 : Nat), .int .u64 (wordAt E 1 : Nat)] 75) = W9 := ⟨_, rfl⟩
    rw [hW9] at HE9 HK9 ⊢
    clear hW9
    obtain ⟨eb, heb⟩ : ∃ eb, w8.heap.size = eb := ⟨_, rfl⟩
    rw [heb] at HE9 ⊢
    clear heb
    have HF9 := hide1 (HF7.out.keep HK9.out)
    have HB9 := hide1 (HB7.out.keep HK9.out)
    have HKw9 := hide1 (gtrans HKw7.out HK9.out)
    have gn : (nn : Int) ≤ 128 := by have := HFA.out.1; omega
    obtain ⟨s0, s1, s2, s3⟩ := HB9.out.facts
    have hmk := run_tab nn (by omega) W9
    go_upto_region 6 with fail
    clear s0 s1 s2 s3 hmk
    have HK10 : Hid (Kept W9 (W9.alloc (.cells (Array.replicate nn (.bool false)) 4))) := (Kept.refl _).alloc _ _
    have HT10 : Hid (TabB (W9.alloc (.cells (Array.replicate nn (.bool false)) 4)) W9.heap.size (falsTo ((List.range 0).map fun i => E.testBit i) nn)) := by
      show TabB _ _ _
      unfold TabB
      rw [heap_alloc_new]
      simp [falsTo]
    have HEG : Hid (eb < W9.heap.size) := HE9.out.lt
    have HBG : Hid (b + 1 < W9.heap.size) := HF9.out.lt
    have HWG : Hid (w.heap.size ≤ W9.heap.size) := HKw9.out.size
    obtain ⟨W10, hW10⟩ : ∃ W10, W9.alloc (.cells (Array.replicate nn (.bool false)) 4) = W10 := ⟨_, rfl⟩
    rw [hW10] at HK10 HT10 ⊢
    clear hW10
    obtain ⟨g, hg⟩ : ∃ g, W9.heap.size = g := ⟨_, rfl⟩
    rw [hg] at HT10 HEG HBG HWG ⊢
    clear hg
    have HE10 := hide1 (HE9.out.keep HK10.out)
    have HF10 := hide1 (HF9.out.keep HK10.out)
    have HKw10 := hide1 (gtrans HKw9.out HK10.out)
    go_wp2_with fail
    go_loopw [22] (NuI E nn g eb b W10) (fun i _ => nn - (intOf i).toNat)
    case atStart => exact ⟨0, rfl, Nat.zero_le _, HT10, HE10, HF10, but_refl g W10⟩
    case round =>
      obtain ⟨j, rfl, hj, HTr, HEr, HFr, HKr⟩ := hrel
      have HKw : Hid (Kept w wr) := KeptBut.up HKw10.out HWG.out HKr.out
      have HLN : Hid (((List.range j).map fun i => E.testBit i).length = j) := by show _ = _; rw [List.length_map, List.length_range]
      by_cases hlt : (j : Int) < (nn : Int)
      · have HJN : Hid (j < nn) := by show _ < _; omega
        have e0 := HEr.out.cell (i := 0) (by omega)
        have e1 := HEr.out.cell (i := 1) (by omega)
        have HAT : Hid (((falsTo ((List.range j).map fun i => E.testBit i) nn).map Value.bool)[j]? = some (.bool false)) := by
          have h := falsTo_at (ms := (List.range j).map fun i => E.testBit i) (n := nn) (by rw [HLN.out]; exact HJN.out)
          rw [HLN.out] at h
          show _ = _
          rw [List.getElem?_map, h]
          rfl
        obtain ⟨em, hem⟩ : ∃ em, E.testBit j = em := ⟨_, rfl⟩
        have HEM := hide1 hem
        clear hem
        go_upto_region 10 with (go_at_call 44; refine (sHas_is E j (by have := HJN.out; omega) _).mono ?_; rintro e w11 ⟨rfl, hk11⟩; rw [HEM.out]; have HK11 := hide1 hk11; have HT11 := hide1 (HTr.out.blk.keep hk11); have hat := HT11.out.cell HAT.out; have hfr := HT11.out.free j; clear hk11)
        clear hat hfr e0 e1
        have HT12 : Hid (TabB (w11.setCell ⟨g, j, none⟩ (.bool em)) g (falsTo ((List.range (j + 1)).map fun i => E.testBit i) nn)) := by
          have h := TabB.put (i := j) (show TabB w11 g _ from HT11.out) em
          have e := falsTo_set (ms := (List.range j).map fun i => E.testBit i) (n := nn) (by rw [HLN.out]; exact HJN.out) em
          rw [HLN.out] at e
          rw [e] at h
          show TabB _ _ _
          rw [List.range_succ, List.map_append]
          show TabB _ _ (falsTo (_ ++ [E.testBit j]) nn)
          rw [HEM.out]
          exact h
        have HBU : Hid (KeptBut g w11 (w11.setCell ⟨g, j, none⟩ (.bool em))) := but_set (but_refl g w11) _ _
        have HE12 := hide1 ((HEr.out.keep HK11.out).but HBU.out (by have := HEG.out; omega))
        have HF12 := hide1 ((HFr.out.keep HK11.out).but HBU.out (by have := HBG.out; omega))
        have HK12 := hide1 ((HK11.out.but g).trans HBU.out)
        obtain ⟨W12, hW12⟩ : ∃ W12, w11.setCell ⟨g, j, none⟩ (.bool em) = W12 := ⟨_, rfl⟩
        rw [hW12] at HT12 HE12 HF12 HK12 ⊢
        clear hW12 HBU
        go_wp2_with fail
        go_roundw
        case rel => exact ⟨j + 1, by go_num, HJN.out, HT12, HE12, HF12, HKr.out.trans HK12.out⟩
        case measure => simp [intOf]; omega
      · have hjn : j = nn := by omega
        subst hjn
        obtain ⟨⟨f0, f1, f2⟩, z0, z1, z2⟩ := HFr.out.cells
        go_wp2_with fail
        refine bodyPost_ret (results_tmp_row rfl _ _ (b + 1) 44 _ (0, 0) _ rfl (HFr.out.fill 0 0) Tryd.underlying44 rfl (fault_size _ _)) rfl ?_
        have HBU : Hid (KeptBut (b + 1) wr (((wr.setCell ⟨b + 1, 0, none⟩ (.int .i64 0)).setCell ⟨b + 1, 1, none⟩ (.int .i64 0)).setCell ⟨b + 1, 2, none⟩ (.string ⟨#[]⟩))) := but_set (but_set (but_set (but_refl (b + 1) wr) _ _) _ _) _ _
        refine ⟨(0, xa), HQ6.out, KeptBut.up HKw.out (by rw [HSZ.out]; omega) HBU.out, .inr ⟨rfl, _, rfl, E, HE.out, g, ?_, HWG.out, ?_⟩⟩
        · rw [HLN.out]
          rfl
        · have h := HTr.out
          have e : falsTo ((List.range j).map fun i => E.testBit i) j = (List.range j).map fun i => E.testBit i := by
            have h2 := falsTo_all (ms := (List.range j).map fun i => E.testBit i)
            rw [HLN.out] at h2
            exact h2
          rw [e] at h
          exact h.blk.but HBU.out (by have := HBG.out; omega)
  · have b0 : (xe != 0) = true := by simpa using hx0
    have HNX : Hid (xe ≠ 0) := hx0
    clear hx0
    go_upto_region 3 with fail
    clear x0
    refine wp_region_held_drew (S := fun X => KeptBut (b + 1) W7 X) (by kernel_rfl) (but_refl (b + 1) W7) (fun hHeld => ?_)
    refine wpAnyH_take (i := 0) (v := .agg #[.int .i64 xe, .int .i64 xa, .string ⟨#[]⟩]) rfl (by kernel_rfl) (by kernel_rfl) (by kernel_rfl) (fun _ _ _ h => h) (Or.inl ⟨by rfl, fun w' hSw => ?_⟩) (by with_reducible assumption) ?_
    · obtain ⟨⟨s0, s1, s2⟩, _⟩ := (HXB.out.but hSw HXD.out).cells
      clear hSw
      go_simp
    try simp only [Act.put, List.setIfInBounds_toArray, List.set_cons_zero, List.set_cons_succ]
    refine wpAnyH_take (i := 1) (v := .slice none 0 0) rfl (by kernel_rfl) (by kernel_rfl) (by kernel_rfl) (fun _ _ _ h => h) (Or.inl ⟨by rfl, fun w' hSw => ?_⟩) (by with_reducible assumption) ?_
    · clear hSw
      go_simp
    try simp only [Act.put, List.setIfInBounds_toArray, List.set_cons_zero, List.set_cons_succ]
    have HKX := hide1 (drew_kept W7)
    obtain ⟨X0, hX0⟩ : ∃ X0, W7.drew = X0 := ⟨_, rfl⟩
    rw [hX0] at hHeld HKX ⊢
    clear hX0
    refine wpAnyH_ready (rs := [2]) (by kernel_rfl) (by simp) ?_
    refine AllReadyH.cons (i := 2) rfl (fun K hK => ?_) AllReadyH.nil
    obtain ⟨⟨f0, f1, f2⟩, z0, z1, z2⟩ := (HF7.out.keep HKX.out).cells
    go_simp
    clear f0 f1 f2 z0 z1 z2
    have HF8 := hide1 ((HF7.out.keep HKX.out).fill xe xa)
    have HK8 : Hid (KeptBut (b + 1) W7 (((X0.setCell ⟨b + 1, 0, none⟩ (.int .i64 xe)).setCell ⟨b + 1, 1, none⟩ (.int .i64 xa)).setCell ⟨b + 1, 2, none⟩ (.string ⟨#[]⟩))) := but_set (but_set (but_set (HKX.out.but (b + 1)) _ _) _ _) _ _
    refine hK.out _ _ HK8.out (fun hHeld2 => ?_)
    clear hK K hHeld
    have hHeld := hHeld2
    clear hHeld2
    try simp only [Act.put, List.setIfInBounds_toArray, List.set_cons_zero, List.set_cons_succ]
    refine wpAnyH_done (by kernel_rfl) ?_ _
    clear hHeld
    go_wp2_with fail
    refine bodyPost_ret (results_tmp_row rfl _ _ (b + 1) 44 _ (0, 0) _ rfl HF8.out Tryd.underlying44 rfl (fault_size _ _)) rfl ?_
    exact ⟨(xe, xa), HQ6.out, KeptBut.up HKw7.out (by rw [HSZ.out]; omega) HK8.out, .inl ⟨HNX.out, rfl⟩⟩

end Ex
end Go.Proofs.YtooelfjceehmmaaDoor
