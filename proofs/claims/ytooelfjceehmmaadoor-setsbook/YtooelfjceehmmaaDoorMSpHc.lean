import Derived.Test.YtooelfjceehmmaaDoorMSpHa
import Derived.Test.YtooelfjceehmmaaDoorMSpTs
namespace Go.Proofs.YtooelfjceehmmaaDoor
open Go.RowKit
attribute [local go_sem] Oper.semAt_some
namespace Ex

/-- What Heads answers of a spec in order. -/
def HeadsQ {k : Nat} (lex : List (LexM k)) (ps : List ProdM) (nn nl : Nat) (row : List SymM) (next : List Int) (base : Nat) (e : Ending) (w' : World) : Prop :=
  ((rowQ lex nn row).1 ≠ 0 ∧ e = .returned (.tuple #[.slice none 0 0, faultV (rowQ lex nn row)])) ∨
  ((rowQ lex nn row).1 = 0 ∧ ∃ (i : Nat) (z : Int), next[i]? = some z ∧ ¬ TermOk lex nl z ∧ (∀ x ∈ next.take i, TermOk lex nl x) ∧ e = .returned (.tuple #[.slice none 0 0, faultV (74, (i : Int))])) ∨
  ((rowQ lex nn row).1 = 0 ∧ (∀ z ∈ next, TermOk lex nl z) ∧ ∃ (v : Value) (E : Nat) (F : Nat → Nat), e = .returned (.tuple #[v, faultV (0, 0)]) ∧ (∀ n, E.testBit n = true ↔ Mk false ps n) ∧ (∀ n, F n < 2 ^ 128) ∧ (∀ x, famS F x ↔ Fi nl (Mk false ps) ps x) ∧ IntsO w' base v (bitsTo (headsM nl E F (bitsL next) row 0) 128))
def HeadsR {k : Nat} (lex : List (LexM k)) (ps : List ProdM) (nn nl : Nat) (st : Int) (row : List SymM) (next : List Int) (w : World) (e : Ending) (w' : World) : Prop := ∃ x : Int × Int, CheckQ lex ps nn nl st x ∧ Kept w w' ∧ ((x.1 ≠ 0 ∧ e = .returned (.tuple #[.slice none 0 0, faultV x])) ∨ (x.1 = 0 ∧ HeadsQ lex ps nn nl row next w.heap.size e w'))
theorem wrongF_ok {k : Nat} {lex : List (LexM k)} {nn : Nat} : ∀ {row : List SymM} {i : Nat}, (wrongF lex nn i row).2 = 0 → ∀ x ∈ row, symErr lex nn x = 0
  | [], _, _, x, hx => by cases hx
  | y :: row, i, h, x, hx => by
    unfold wrongF at h
    split at h
    · next e =>
      rcases List.mem_cons.1 hx with rfl | hx
      · exact e
      · exact wrongF_ok h x hx
    · next e => exact absurd h e
/-- A symbol that is in order. -/
theorem sym_ok {k : Nat} {lex : List (LexM k)} {nn nl : Nat} {x : SymM} (hlex : lex.length = nl) (h : symErr lex nn x = 0) : (x.1 = 1 ∧ 0 ≤ x.2 ∧ x.2 < (nl : Int)) ∨ x.1 = 2 ∨ (x.1 = 3 ∧ 0 ≤ x.2 ∧ x.2 < (nn : Int)) := by
  unfold symErr at h
  rw [hlex] at h
  split at h
  · next e => exact .inl e
  · next e =>
    split at h
    · next e2 =>
      rcases e2 with e2 | e2
      · exact .inr (.inl e2.1)
      · exact .inr (.inr e2)
    · exact absurd h (by decide)
theorem row_oks {k : Nat} {lex : List (LexM k)} {nn : Nat} {row : List SymM} (h : (rowQ lex nn row).1 = 0) : row.length ≤ 16 ∧ ∀ x ∈ row, symErr lex nn x = 0 := by
  unfold rowQ at h
  split at h
  · exact absurd h (by show ¬ (2 : Int) = 0; decide)
  · next e => exact ⟨by omega, wrongF_ok h⟩
theorem row_good {k : Nat} {lex : List (LexM k)} {nn nl : Nat} {row : List SymM} (hlex : lex.length = nl) (hnl : nl ≤ 128) (hnn : nn ≤ 128) (h : (rowQ lex nn row).1 = 0) : ∀ x ∈ row, SymGood x := fun x hx => by
  have hs := sym_ok hlex ((row_oks h).2 x hx)
  refine ⟨?_, ?_⟩
  · intro h3
    rcases hs with e | e | e <;> omega
  · intro h3 h2
    rcases hs with e | e | e <;> omega
set_option linter.unusedSimpArgs false in
set_option maxRecDepth 100000 in
set_option maxHeartbeats 16000000 in
/-- Heads of any spec, row and list. -/
theorem sHeads_is (k : Nat) (lex : List (LexM k)) (ps : List ProdM) (al an ap ar ax : Option Addr) (nl cl nn cn np cp nr cr m cx : Nat) (st : Int) (row : List SymM) (next : List Int) (w : World) (hnn : nn ≤ 17592186044416) (hlex : lex.length = nl) (hps : ps.length = np) (hrow : row.length = nr) (hnx : next.length = m) (hl : LexAt w k (.slice al nl cl) lex) (hp : ProdsAt w (.slice ap np cp) ps) (hr : RightAt w (.slice ar nr cr) row) (hx : SliceOf w 1 (fun cs x => cs = [Value.int .i64 x]) (.slice ax m cx) next) (hT : TabAt w) :
    Calls Tryd.prog 9 #[.agg #[.slice al nl cl, .slice an nn cn, .int .i64 st, .slice ap np cp], .slice ar nr cr, .slice ax m cx] w (HeadsR lex ps nn nl st row next w) := by
  obtain ⟨h1, h2, h3⟩ := chk_start w (.slice al nl cl) (.slice an nn cn) (.int .i64 st) (.slice ap np cp)
  have HB := hide1 h1
  have HF := hide1 h2
  have HK := hide1 h3
  have HC := hide1 (sCheck_is k lex ps al an ap nl cl nn cn np cp st _ hnn hlex hps (hl.keep h3) (hp.keep h3))
  have HP := hide1 hp
  have HPS := hide1 hps
  have HLEN := hide1 hlex
  have HL := hide1 hl
  have HR := hide1 hr
  have HX := hide1 hx
  have HROW := hide1 hrow
  have HNX := hide1 hnx
  have HNN := hide1 hnn
  have HT := hide1 hT
  clear h1 h2 h3 hp hps hl hlex hnn hT hr hx hrow hnx
  go_enter Tryd.func9, Tryd.ntmps9
  go_upto_region 1 with fail
  obtain ⟨W, hW⟩ : ∃ W, (w.alloc (.cells #[.slice al nl cl, .slice an nn cn, .int .i64 st, .slice ap np cp] 26)).alloc (.cells #[.int .i64 0, .int .i64 0, .string ⟨#[]⟩] 44) = W := ⟨_, rfl⟩
  rw [hW] at HB HF HK HC ⊢
  clear hW
  obtain ⟨b, hb⟩ : ∃ b, w.heap.size = b := ⟨_, rfl⟩
  rw [hb] at HB HF ⊢
  have HSZ := hide1 hb
  clear hb
  obtain ⟨s0, s1, s2, s3⟩ := HB.out.facts
  go_upto_region 2 with (go_at_call 27; refine HC.out.mono ?_; rintro e w6 ⟨⟨xe, xa⟩, rfl, hq6, hk6⟩; rw [faultV_eq]; have HQ6 := hide1 hq6; have HK6 := hide1 hk6; clear hq6 hk6)
  clear s0 s1 s2 s3
  have HXB : Hid (FlBox (w6.alloc (.cells #[.int .i64 xe, .int .i64 xa, .string ⟨#[]⟩] 44)) w6.heap.size xe xa) := heap_alloc_new w6 _
  have HK7 := hide1 (gtrans HK6.out ((Kept.refl w6).alloc #[.int .i64 xe, .int .i64 xa, .string ⟨#[]⟩] 44))
  obtain ⟨W7, hW7⟩ : ∃ W7, w6.alloc (.cells #[.int .i64 xe, .int .i64 xa, .string ⟨#[]⟩] 44) = W7 := ⟨_, rfl⟩
  rw [hW7] at HXB HK7 ⊢
  clear hW7
  have HXW : Hid (W.heap.size ≤ w6.heap.size) := HK6.out.size
  obtain ⟨xb, hxb⟩ : ∃ xb, w6.heap.size = xb := ⟨_, rfl⟩
  rw [hxb] at HXB HXW ⊢
  clear hxb
  have HXD : Hid (xb ≠ b + 1) := by have := HF.out.lt; have := HXW.out; show _ ≠ _; omega
  clear HXW
  have HF7 := hide1 (HF.out.keep HK7.out)
  have HB7 := hide1 (HB.out.keep HK7.out)
  have HKw7 := hide1 (gtrans HK.out HK7.out)
  have x0 := HXB.out.cells.1.1
  by_cases hx0 : xe = 0
  · subst hx0
    have HPA := hide1 (checkQ_ok HQ6.out rfl)
    have HFA := hide1 (HPA.out.2.1.facts HLEN.out (Nat.le_refl 2))
    obtain ⟨re, ra, hre⟩ : ∃ re ra, rowQ lex nn row = (re, ra) := ⟨_, _, rfl⟩
    have HRE := hide1 hre
    clear hre
    obtain ⟨s0, s1, s2, s3⟩ := HB7.out.facts
    go_upto_region 5 with (go_at_call 28; refine (checkRow_is k al an ar nl cl nn cn nr cr lex row _ st _ HLEN.out HROW.out HNN.out (HL.out.keep HKw7.out) (HR.out.keep HKw7.out)).mono ?_; rintro e w8 ⟨rfl, hk8⟩; rw [HRE.out, faultV_eq]; have HK8 := hide1 hk8; clear hk8)
    clear s0 s1 s2 s3 x0
    have HYB : Hid (FlBox (w8.alloc (.cells #[.int .i64 re, .int .i64 ra, .string ⟨#[]⟩] 44)) w8.heap.size re ra) := heap_alloc_new w8 _
    have HK9 := hide1 (gtrans HK8.out ((Kept.refl w8).alloc #[.int .i64 re, .int .i64 ra, .string ⟨#[]⟩] 44))
    obtain ⟨W9, hW7⟩ : ∃ W7, w8.alloc (.cells #[.int .i64 re, .int .i64 ra, .string ⟨#[]⟩] 44) = W7 := ⟨_, rfl⟩
    rw [hW7] at HYB HK9 ⊢
    clear hW7
    have HXW : Hid (W7.heap.size ≤ w8.heap.size) := HK8.out.size
    obtain ⟨yb, hxb⟩ : ∃ xb, w8.heap.size = xb := ⟨_, rfl⟩
    rw [hxb] at HYB HXW ⊢
    clear hxb
    have HYD : Hid (yb ≠ b + 1) := by have := HF7.out.lt; have := HXW.out; show _ ≠ _; omega
    clear HXW
    have HF9 := hide1 (HF7.out.keep HK9.out)
    have HB9 := hide1 (HB7.out.keep HK9.out)
    have HKw9 := hide1 (gtrans HKw7.out HK9.out)
    have x0 := HYB.out.cells.1.1
    by_cases hr0 : re = 0
    · subst hr0
      obtain ⟨s0, s1, s2, s3⟩ := HB9.out.facts
      go_upto_region 7 with fail
      clear s0 s1 s2 s3 x0
      obtain ⟨s0, s1, s2, s3⟩ := HB9.out.facts
      go_wp2_with fail
      refine (terminals_is k _ ax nl cl m cx lex next _ _ _ _ HLEN.out (by have := HFA.out.1; omega) HNX.out (HL.out.keep HKw9.out) (SliceOf.mono HX.out HKw9.out (fun _ _ h => h))).mono ?_
      rintro e wt ⟨hkt, hort⟩
      have HKT := hide1 hkt
      clear hkt s0 s1 s2 s3
      rcases hort with ⟨ti, tz, t1, t2, t3, rfl⟩ | ⟨hall, rfl⟩
      · have HT1 := hide1 t1
        have HT2 := hide1 t2
        have HT3 := hide1 t3
        clear t1 t2 t3
        rw [faultV_eq, setS_eq]
        go_upto_region 8 with fail
        have HS2 : Hid (SetB ((wt.alloc (.cells #[.int .u64 (wordAt 0 0 : Nat), .int .u64 (wordAt 0 1 : Nat)] 75)).alloc (.cells #[.int .i64 74, .int .i64 (ti : Int), .string ⟨#[]⟩] 44)) wt.heap.size 0) := hide1 ((SetB.new wt 0).keep ((Kept.refl _).alloc _ _))
        have HF2 : Hid (FlBox ((wt.alloc (.cells #[.int .u64 (wordAt 0 0 : Nat), .int .u64 (wordAt 0 1 : Nat)] 75)).alloc (.cells #[.int .i64 74, .int .i64 (ti : Int), .string ⟨#[]⟩] 44)) (wt.heap.size + 1) 74 (ti : Int)) := hide1 (by
          have h : FlBox ((wt.alloc (.cells #[.int .u64 (wordAt 0 0 : Nat), .int .u64 (wordAt 0 1 : Nat)] 75)).alloc (.cells #[.int .i64 74, .int .i64 (ti : Int), .string ⟨#[]⟩] 44)) (wt.alloc (.cells #[.int .u64 (wordAt 0 0 : Nat), .int .u64 (wordAt 0 1 : Nat)] 75)).heap.size 74 (ti : Int) := heap_alloc_new (wt.alloc (.cells #[.int .u64 (wordAt 0 0 : Nat), .int .u64 (wordAt 0 1 : Nat)] 75)) _
          rw [show (wt.alloc (.cells #[.int .u64 (wordAt 0 0 : Nat), .int .u64 (wordAt 0 1 : Nat)] 75)).heap.size = wt.heap.size + 1 by simp] at h
          exact h)
        have HK2 : Hid (Kept wt ((wt.alloc (.cells #[.int .u64 (wordAt 0 0 : Nat), .int .u64 (wordAt 0 1 : Nat)] 75)).alloc (.cells #[.int .i64 74, .int .i64 (ti : Int), .string ⟨#[]⟩] 44))) := hide1 (((Kept.refl wt).alloc _ _).alloc _ _)
        obtain ⟨W10, hW10⟩ : ∃ W10, (wt.alloc (.cells #[.int .u64 (wordAt 0 0 : Nat), .int .u64 (wordAt 0 1 : Nat)] 75)).alloc (.cells #[.int .i64 74, .int .i64 (ti : Int), .string ⟨#[]⟩] 44) = W10 := ⟨_, rfl⟩
        rw [hW10] at HS2 HF2 HK2 ⊢
        clear hW10
        have HTL : Hid (W9.heap.size ≤ wt.heap.size) := HKT.out.size
        obtain ⟨tb, htb⟩ : ∃ tb, wt.heap.size = tb := ⟨_, rfl⟩
        rw [htb] at HS2 HF2 HTL ⊢
        clear htb
        have HTD : Hid (tb ≠ b + 1) := by have := HF9.out.lt; have := HTL.out; show _ ≠ _; omega
        have HTD2 : Hid (tb + 1 ≠ b + 1) := by have := HF9.out.lt; have := HTL.out; show _ ≠ _; omega
        have HK10 := hide1 (gtrans HKT.out HK2.out)
        have HF10 := hide1 (HF9.out.keep HK10.out)
        have HB10 := hide1 (HB9.out.keep HK10.out)
        have HKw10 := hide1 (gtrans HKw9.out HK10.out)
        have x0 := HF2.out.cells.1.1
        go_upto_region 9 with fail
        clear x0
        refine wp_region_held_drew (S := fun X => KeptBut (b + 1) W10 X) (by kernel_rfl) (but_refl (b + 1) W10) (fun hHeld => ?_)
        refine wpAnyH_take (i := 0) (v := .agg #[.int .i64 74, .int .i64 (ti : Int), .string ⟨#[]⟩]) rfl (by kernel_rfl) (by kernel_rfl) (by kernel_rfl) (fun _ _ _ h => h) (Or.inl ⟨by rfl, fun w' hSw => ?_⟩) (by with_reducible assumption) ?_
        · obtain ⟨⟨s0, s1, s2⟩, _⟩ := (HF2.out.but hSw HTD2.out).cells
          clear hSw
          go_simp
        try simp only [Act.put, List.setIfInBounds_toArray, List.set_cons_zero, List.set_cons_succ]
        refine wpAnyH_take (i := 1) (v := .slice none 0 0) rfl (by kernel_rfl) (by kernel_rfl) (by kernel_rfl) (fun _ _ _ h => h) (Or.inl ⟨by rfl, fun w' hSw => ?_⟩) (by with_reducible assumption) ?_
        · clear hSw
          go_simp
        try simp only [Act.put, List.setIfInBounds_toArray, List.set_cons_zero, List.set_cons_succ]
        have HKX := hide1 (drew_kept W10)
        obtain ⟨X0, hX0⟩ : ∃ X0, W10.drew = X0 := ⟨_, rfl⟩
        rw [hX0] at hHeld HKX ⊢
        clear hX0
        refine wpAnyH_ready (rs := [2]) (by kernel_rfl) (by simp) ?_
        refine AllReadyH.cons (i := 2) rfl (fun K hK => ?_) AllReadyH.nil
        obtain ⟨⟨f0, f1, f2⟩, z0, z1, z2⟩ := (HF10.out.keep HKX.out).cells
        go_simp
        clear f0 f1 f2 z0 z1 z2
        have HFE := hide1 ((HF10.out.keep HKX.out).fill 74 (ti : Int))
        have HKE : Hid (KeptBut (b + 1) W10 (((X0.setCell ⟨b + 1, 0, none⟩ (.int .i64 74)).setCell ⟨b + 1, 1, none⟩ (.int .i64 (ti : Int))).setCell ⟨b + 1, 2, none⟩ (.string ⟨#[]⟩))) := but_set (but_set (but_set (HKX.out.but (b + 1)) _ _) _ _) _ _
        refine hK.out _ _ HKE.out (fun hHeld2 => ?_)
        clear hK K hHeld
        have hHeld := hHeld2
        clear hHeld2
        try simp only [Act.put, List.setIfInBounds_toArray, List.set_cons_zero, List.set_cons_succ]
        refine wpAnyH_done (by kernel_rfl) ?_ _
        clear hHeld
        go_wp2_with fail
        refine bodyPost_ret (results_tmp_row rfl _ _ (b + 1) 44 _ (0, 0) _ rfl HFE.out Tryd.underlying44 rfl (fault_size _ _)) rfl ?_
        have hke := KeptBut.up HKw10.out (by rw [HSZ.out]; omega) HKE.out
        exact ⟨(0, xa), HQ6.out, hke, .inr ⟨rfl, .inr (.inl ⟨by rw [HRE.out], ti, tz, HT1.out, HT2.out, HT3.out, rfl⟩)⟩⟩
      · have HALL := hide1 hall
        clear hall
        obtain ⟨B, hB⟩ : ∃ B, bitsL next = B := ⟨_, rfl⟩
        rw [hB, faultV_eq, setS_eq]
        have HBB := hide1 hB
        clear hB
        go_upto_region 8 with fail
        have HS2 : Hid (SetB ((wt.alloc (.cells #[.int .u64 (wordAt B 0 : Nat), .int .u64 (wordAt B 1 : Nat)] 75)).alloc (.cells #[.int .i64 0, .int .i64 0, .string ⟨#[]⟩] 44)) wt.heap.size B) := hide1 ((SetB.new wt B).keep ((Kept.refl _).alloc _ _))
        have HF2 : Hid (FlBox ((wt.alloc (.cells #[.int .u64 (wordAt B 0 : Nat), .int .u64 (wordAt B 1 : Nat)] 75)).alloc (.cells #[.int .i64 0, .int .i64 0, .string ⟨#[]⟩] 44)) (wt.heap.size + 1) 0 0) := hide1 (by
          have h : FlBox ((wt.alloc (.cells #[.int .u64 (wordAt B 0 : Nat), .int .u64 (wordAt B 1 : Nat)] 75)).alloc (.cells #[.int .i64 0, .int .i64 0, .string ⟨#[]⟩] 44)) (wt.alloc (.cells #[.int .u64 (wordAt B 0 : Nat), .int .u64 (wordAt B 1 : Nat)] 75)).heap.size 0 0 := heap_alloc_new (wt.alloc (.cells #[.int .u64 (wordAt B 0 : Nat), .int .u64 (wordAt B 1 : Nat)] 75)) _
          rw [show (wt.alloc (.cells #[.int .u64 (wordAt B 0 : Nat), .int .u64 (wordAt B 1 : Nat)] 75)).heap.size = wt.heap.size + 1 by simp] at h
          exact h)
        have HK2 : Hid (Kept wt ((wt.alloc (.cells #[.int .u64 (wordAt B 0 : Nat), .int .u64 (wordAt B 1 : Nat)] 75)).alloc (.cells #[.int .i64 0, .int .i64 0, .string ⟨#[]⟩] 44))) := hide1 (((Kept.refl wt).alloc _ _).alloc _ _)
        obtain ⟨W10, hW10⟩ : ∃ W10, (wt.alloc (.cells #[.int .u64 (wordAt B 0 : Nat), .int .u64 (wordAt B 1 : Nat)] 75)).alloc (.cells #[.int .i64 0, .int .i64 0, .string ⟨#[]⟩] 44) = W10 := ⟨_, rfl⟩
        rw [hW10] at HS2 HF2 HK2 ⊢
        clear hW10
        have HTL : Hid (W9.heap.size ≤ wt.heap.size) := HKT.out.size
        obtain ⟨tb, htb⟩ : ∃ tb, wt.heap.size = tb := ⟨_, rfl⟩
        rw [htb] at HS2 HF2 HTL ⊢
        clear htb
        have HTD : Hid (tb ≠ b + 1) := by have := HF9.out.lt; have := HTL.out; show _ ≠ _; omega
        have HTD2 : Hid (tb + 1 ≠ b + 1) := by have := HF9.out.lt; have := HTL.out; show _ ≠ _; omega
        have HK10 := hide1 (gtrans HKT.out HK2.out)
        have HF10 := hide1 (HF9.out.keep HK10.out)
        have HB10 := hide1 (HB9.out.keep HK10.out)
        have HKw10 := hide1 (gtrans HKw9.out HK10.out)
        have x0 := HF2.out.cells.1.1
        obtain ⟨s0, s1, s2, s3⟩ := HB10.out.facts
        go_upto_region 11 with (first
          | (go_at_call 30; refine (gNew_is nl ps al an ap cl nn cn np cp _ _ (by have := HFA.out.1; omega) HPS.out (HP.out.keep HKw10.out) HFA.out.2.1).mono ?_; rintro e wg ⟨E, F, rfl, hE, hF, hFi, hkg⟩; have HE := hide1 hE; have HFB := hide1 hF; have HFI := hide1 hFi; have HKG := hide1 hkg; clear hE hF hFi hkg)
          | (refine wpList_store_row rfl 81 _ _ rfl wg.heap.size (grL (.slice al nl cl) (.slice an nn cn) (.int .i64 st) (.slice ap np cp) E F).toArray rfl rfl 81 (grL (.slice none 0 0) (.slice none 0 0) (.int .i64 0) (.slice none 0 0) 0 fun _ => 0).toArray (by exact gr_zero wg) (gr_size _ _ _ _ E F) (gr_sizes _ _ _ _ _ _ _ _ _ _ _ _) (gr_one ⟨rfl, rfl, rfl, rfl⟩) ?_))
        clear s0 s1 s2 s3 x0
        have HG11 : Hid (GrB ((wg.alloc (.cells Tryd.zeroCells81 81)).setRow wg.heap.size (grL (.slice al nl cl) (.slice an nn cn) (.int .i64 st) (.slice ap np cp) E F).toArray) wg.heap.size (.slice al nl cl) (.slice an nn cn) (.int .i64 st) (.slice ap np cp) E F) := setRow_heap _ _ _ _ _ _ (gr_zero wg)
        have HK11 : Hid (Kept W10 ((wg.alloc (.cells Tryd.zeroCells81 81)).setRow wg.heap.size (grL (.slice al nl cl) (.slice an nn cn) (.int .i64 st) (.slice ap np cp) E F).toArray)) := KeptBut.up (gtrans HKG.out ((Kept.refl wg).alloc _ _)) HKG.out.size (setRow_butS _ _ _)
        obtain ⟨W11, hW11⟩ : ∃ W11, (wg.alloc (.cells Tryd.zeroCells81 81)).setRow wg.heap.size (grL (.slice al nl cl) (.slice an nn cn) (.int .i64 st) (.slice ap np cp) E F).toArray = W11 := ⟨_, rfl⟩
        rw [hW11] at HG11 HK11 ⊢
        clear hW11
        obtain ⟨gb, hgb⟩ : ∃ gb, wg.heap.size = gb := ⟨_, rfl⟩
        rw [hgb] at HG11 ⊢
        clear hgb
        have HKw11 := hide1 (gtrans HKw10.out HK11.out)
        have HF11 := hide1 (HF10.out.keep HK11.out)
        have HS11 := hide1 (HS2.out.keep HK11.out)
        have c0 := HS11.out.cell (i := 0) (by omega)
        have c1 := HS11.out.cell (i := 1) (by omega)
        have HRG : Hid (∀ x ∈ row, SymGood x) := hide1 (row_good (nl := nl) (nn := nn) HLEN.out (by have := HFA.out.1; omega) (by have := HFA.out.1; omega) (by rw [HRE.out]))
        go_wp2_with (first
          | (go_at_call 31; refine (gHeads_is gb E B nl F al cl _ _ st ar nr cr row _ (by have := HFA.out.1; omega) HROW.out (HR.out.keep HKw11.out) HG11.out HRG.out).mono ?_; rintro e wh ⟨rfl, hkh⟩; have HKH := hide1 hkh; clear hkh)
          | (go_at_call 32; refine (sList_is _ _ (HT.out.keep (gtrans HKw11.out HKH.out))).mono ?_; rintro e wl ⟨⟨v, rfl, hv⟩, hkl⟩; have HV := hide1 hv; have HKL := hide1 (gtrans HKH.out hkl); have HLH : Hid (wh.heap.size ≤ wl.heap.size) := hide1 hkl.size; obtain ⟨⟨f0, f1, f2⟩, z0, z1, z2⟩ := (HF11.out.keep HKL.out).cells; clear hv hkl))
        have HFE := hide1 ((HF11.out.keep HKL.out).fill 0 0)
        refine bodyPost_ret (results_tmp_row rfl _ _ (b + 1) 44 _ (0, 0) _ rfl HFE.out Tryd.underlying44 rfl (fault_size _ _)) rfl ?_
        have hke : Kept w (((wl.setCell ⟨b + 1, 0, none⟩ (.int .i64 0)).setCell ⟨b + 1, 1, none⟩ (.int .i64 0)).setCell ⟨b + 1, 2, none⟩ (.string ⟨#[]⟩)) := keepB (keepB (keepB (gtrans HKw11.out HKL.out) (by rw [HSZ.out]; omega)) (by rw [HSZ.out]; omega)) (by rw [HSZ.out]; omega)
        have hbw : b + 1 < wh.heap.size := Nat.lt_of_lt_of_le HF11.out.lt HKH.out.size
        refine ⟨(0, xa), HQ6.out, hke, .inr ⟨rfl, .inr (.inr ⟨by rw [HRE.out], HALL.out, v, E, F, rfl, HE.out, HFB.out, HFI.out, ?_⟩)⟩⟩
        rw [HBB.out]
        refine IntsO.low (b := w.heap.size) (base := wh.heap.size) ?_ (Nat.le_trans HKw11.out.size HKH.out.size)
        exact owns_same HV.out (fun d hd => by
          have := (HV.out.lt d hd).1
          exact (heap_set_ne (by omega)).trans ((heap_set_ne (by omega)).trans (heap_set_ne (by omega))))
    · have b0 : (re != 0) = true := by simpa using hr0
      have HNR : Hid (re ≠ 0) := hr0
      clear hr0
      go_upto_region 6 with fail
      clear x0
      refine wp_region_held_drew (S := fun X => KeptBut (b + 1) W9 X) (by kernel_rfl) (but_refl (b + 1) W9) (fun hHeld => ?_)
      refine wpAnyH_take (i := 0) (v := .agg #[.int .i64 re, .int .i64 ra, .string ⟨#[]⟩]) rfl (by kernel_rfl) (by kernel_rfl) (by kernel_rfl) (fun _ _ _ h => h) (Or.inl ⟨by rfl, fun w' hSw => ?_⟩) (by with_reducible assumption) ?_
      · obtain ⟨⟨s0, s1, s2⟩, _⟩ := (HYB.out.but hSw HYD.out).cells
        clear hSw
        go_simp
      try simp only [Act.put, List.setIfInBounds_toArray, List.set_cons_zero, List.set_cons_succ]
      refine wpAnyH_take (i := 1) (v := .slice none 0 0) rfl (by kernel_rfl) (by kernel_rfl) (by kernel_rfl) (fun _ _ _ h => h) (Or.inl ⟨by rfl, fun w' hSw => ?_⟩) (by with_reducible assumption) ?_
      · clear hSw
        go_simp
      try simp only [Act.put, List.setIfInBounds_toArray, List.set_cons_zero, List.set_cons_succ]
      have HKX := hide1 (drew_kept W9)
      obtain ⟨X0, hX0⟩ : ∃ X0, W9.drew = X0 := ⟨_, rfl⟩
      rw [hX0] at hHeld HKX ⊢
      clear hX0
      refine wpAnyH_ready (rs := [2]) (by kernel_rfl) (by simp) ?_
      refine AllReadyH.cons (i := 2) rfl (fun K hK => ?_) AllReadyH.nil
      obtain ⟨⟨f0, f1, f2⟩, z0, z1, z2⟩ := (HF9.out.keep HKX.out).cells
      go_simp
      clear f0 f1 f2 z0 z1 z2
      have HFE := hide1 ((HF9.out.keep HKX.out).fill re ra)
      have HKE : Hid (KeptBut (b + 1) W9 (((X0.setCell ⟨b + 1, 0, none⟩ (.int .i64 re)).setCell ⟨b + 1, 1, none⟩ (.int .i64 ra)).setCell ⟨b + 1, 2, none⟩ (.string ⟨#[]⟩))) := but_set (but_set (but_set (HKX.out.but (b + 1)) _ _) _ _) _ _
      refine hK.out _ _ HKE.out (fun hHeld2 => ?_)
      clear hK K hHeld
      have hHeld := hHeld2
      clear hHeld2
      try simp only [Act.put, List.setIfInBounds_toArray, List.set_cons_zero, List.set_cons_succ]
      refine wpAnyH_done (by kernel_rfl) ?_ _
      clear hHeld
      go_wp2_with fail
      refine bodyPost_ret (results_tmp_row rfl _ _ (b + 1) 44 _ (0, 0) _ rfl HFE.out Tryd.underlying44 rfl (fault_size _ _)) rfl ?_
      have hke := KeptBut.up HKw9.out (by rw [HSZ.out]; omega) HKE.out
      exact ⟨(0, xa), HQ6.out, hke, .inr ⟨rfl, .inl ⟨by rw [HRE.out]; exact HNR.out, by rw [HRE.out]; rfl⟩⟩⟩
  · have b0 : (xe != 0) = true := by simpa using hx0
    have HNXE : Hid (xe ≠ 0) := hx0
    clear hx0
    go_upto_region 3 with fail
    clear x0
    refine wp_region_held_drew (S := fun X => KeptBut (b + 1) W7 X) (by kernel_rfl) (but_refl (b + 1) W7) (fun hHeld => ?_)
    refine wpAnyH_take (i := 0) (v := .agg #[.int .i64 xe, .int .i64 xa, .string ⟨#[]⟩]) rfl (by kernel_rfl) (by kernel_rfl) (by kernel_rfl) (fun _ _ _ h => h) (Or.inl ⟨by rfl, fun w' hSw => ?_⟩) (by with_reducible assumption) ?_
    · obtain ⟨⟨s0, s1, s2⟩, _⟩ := (HXB.out.but hSw HXD.out).cells
      clear hSw
      go_simp
    try simp only [Act.put, List.setIfInBounds_toArray, List.set_cons_zero, List.set_cons_succ]
    refine wpAnyH_take (i := 1) (v := .slice none 0 0) rfl (by kernel_rfl) (by kernel_rfl) (by kernel_rfl) (fun _ _ _ h => h) (Or.inl ⟨by rfl, fun w' hSw => ?_⟩) (by with_reducible assumption) ?_
    · clear hSw
      go_simp
    try simp only [Act.put, List.setIfInBounds_toArray, List.set_cons_zero, List.set_cons_succ]
    have HKX := hide1 (drew_kept W7)
    obtain ⟨X0, hX0⟩ : ∃ X0, W7.drew = X0 := ⟨_, rfl⟩
    rw [hX0] at hHeld HKX ⊢
    clear hX0
    refine wpAnyH_ready (rs := [2]) (by kernel_rfl) (by simp) ?_
    refine AllReadyH.cons (i := 2) rfl (fun K hK => ?_) AllReadyH.nil
    obtain ⟨⟨f0, f1, f2⟩, z0, z1, z2⟩ := (HF7.out.keep HKX.out).cells
    go_simp
    clear f0 f1 f2 z0 z1 z2
    have HFE := hide1 ((HF7.out.keep HKX.out).fill xe xa)
    have HKE : Hid (KeptBut (b + 1) W7 (((X0.setCell ⟨b + 1, 0, none⟩ (.int .i64 xe)).setCell ⟨b + 1, 1, none⟩ (.int .i64 xa)).setCell ⟨b + 1, 2, none⟩ (.string ⟨#[]⟩))) := but_set (but_set (but_set (HKX.out.but (b + 1)) _ _) _ _) _ _
    refine hK.out _ _ HKE.out (fun hHeld2 => ?_)
    clear hK K hHeld
    have hHeld := hHeld2
    clear hHeld2
    try simp only [Act.put, List.setIfInBounds_toArray, List.set_cons_zero, List.set_cons_succ]
    refine wpAnyH_done (by kernel_rfl) ?_ _
    clear hHeld
    go_wp2_with fail
    refine bodyPost_ret (results_tmp_row rfl _ _ (b + 1) 44 _ (0, 0) _ rfl HFE.out Tryd.underlying44 rfl (fault_size _ _)) rfl ?_
    have hke := KeptBut.up HKw7.out (by rw [HSZ.out]; omega) HKE.out
    exact ⟨(xe, xa), HQ6.out, hke, .inl ⟨HNXE.out, rfl⟩⟩

end Ex
end Go.Proofs.YtooelfjceehmmaaDoor
