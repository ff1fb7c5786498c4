import Derived.Test.YtggodknnfpegmaaDoorMSpYl
namespace Go.Proofs.YtggodknnfpegmaaDoor
open Go.RowKit
attribute [local go_sem] Oper.semAt_some
namespace Ex

def AskY {k : Nat} (lex : List (LexM k)) (ps : List ProdM) (nn nl : Nat) (st : Int) (w : World) (e : Ending) (w' : World) : Prop := ∃ x : Int × Int, CheckQ lex ps nn nl st x ∧ Kept w w' ∧ ((x.1 ≠ 0 ∧ e = .returned (.tuple #[.slice none 0 0, faultV x])) ∨ (x.1 = 0 ∧ ∃ y v, e = .returned (.tuple #[v, faultV y]) ∧ YldO nl ps nn w.heap.size y v w'))
theorem YldO.but {nl nn base c : Nat} {ps : List ProdM} {x : Int × Int} {v : Value} {w w' : World} (h : YldO nl ps nn base x v w) (hk : KeptBut c w w') (hc : c < base) : YldO nl ps nn base x v w' := by
  obtain ⟨L, h1, h2, h3⟩ := h
  refine ⟨L, h1, h2, h3.imp id (fun h3 => ⟨h3.1, h3.2.1, h3.2.2.but hk hc⟩)⟩
theorem YldO.down {nl nn base base' : Nat} {ps : List ProdM} {x : Int × Int} {v : Value} {w : World} (h : YldO nl ps nn base x v w) (hb : base' ≤ base) : YldO nl ps nn base' x v w := by
  obtain ⟨L, h1, h2, h3⟩ := h
  refine ⟨L, h1, h2, h3.imp id (fun h3 => ⟨h3.1, h3.2.1, h3.2.2.down hb⟩)⟩
set_option linter.unusedSimpArgs false in
set_option maxRecDepth 100000 in
set_option maxHeartbeats 8000000 in
/-- Yields of any spec. -/
theorem sYields_is (k : Nat) (lex : List (LexM k)) (ps : List ProdM) (al an ap : Option Addr) (nl cl nn cn np cp : Nat) (st : Int) (w : World) (hnn : nn ≤ 17592186044416) (hlex : lex.length = nl) (hps : ps.length = np) (hl : LexAt w k (.slice al nl cl) lex) (hp : ProdsAt w (.slice ap np cp) ps) (hT : TabAt w) :
    Calls Tryd.prog 23 #[.agg #[.slice al nl cl, .slice an nn cn, .int .i64 st, .slice ap np cp]] w (AskY lex ps nn nl st w) := by
  obtain ⟨h1, h2, h3⟩ := chk_start w (.slice al nl cl) (.slice an nn cn) (.int .i64 st) (.slice ap np cp)
  have HB := hide1 h1
  have HF := hide1 h2
  have HK := hide1 h3
  have HC := hide1 (sCheck_is k lex ps al an ap nl cl nn cn np cp st _ hnn hlex hps (hl.keep h3) (hp.keep h3))
  have HP := hide1 hp
  have HPS := hide1 hps
  have HLEN := hide1 hlex
  have HT := hide1 hT
  clear h1 h2 h3 hp hps hl hlex hnn hT
  go_enter Tryd.func23, Tryd.ntmps23
  go_upto_region 1 with fail
  obtain ⟨W, hW⟩ : ∃ W, (w.alloc (.cells #[.slice al nl cl, .slice an nn cn, .int .i64 st, .slice ap np cp] 26)).alloc (.cells #[.int .i64 0, .int .i64 0, .string ⟨#[]⟩] 44) = W := ⟨_, rfl⟩
  rw [hW] at HB HF HK HC ⊢
  clear hW
  obtain ⟨b, hb⟩ : ∃ b, w.heap.size = b := ⟨_, rfl⟩
  rw [hb] at HB HF ⊢
  have HSZ := hide1 hb
  clear hb
  obtain ⟨s0, s1, s2, s3⟩ := HB.out.facts
  go_upto_region 2 with (go_at_call 35; refine HC.out.mono ?_; rintro e w6 ⟨⟨xe, xa⟩, rfl, hq6, hk6⟩; rw [faultV_eq]; have HQ6 := hide1 hq6; have HK6 := hide1 hk6; clear hq6 hk6)
  clear s0 s1 s2 s3
  have HXB : Hid (FlBox (w6.alloc (.cells #[.int .i64 xe, .int .i64 xa, .string ⟨#[]⟩] 44)) w6.heap.size xe xa) := heap_alloc_new w6 _
  have HK7 := hide1 (gtrans HK6.out ((Kept.refl w6).alloc #[.int .i64 xe, .int .i64 xa, .string ⟨#[]⟩] 44))
  obtain ⟨W7, hW7⟩ : ∃ W7, w6.alloc (.cells #[.int .i64 xe, .int .i64 xa, .string ⟨#[]⟩] 44) = W7 := ⟨_, rfl⟩
  rw [hW7] at HXB HK7 ⊢
  clear hW7
  have HXW : Hid (W.heap.size ≤ w6.heap.size) := HK6.out.size
  obtain ⟨xb, hxb⟩ : ∃ xb, w6.heap.size = xb := ⟨_, rfl⟩
  rw [hxb] at HXB HXW ⊢
  clear hxb
  have HXD : Hid (xb ≠ b + 1) := by have := HF.out.lt; have := HXW.out; show _ ≠ _; omega
  have HF7 := hide1 (HF.out.keep HK7.out)
  have HB7 := hide1 (HB.out.keep HK7.out)
  have HKw7 := hide1 (gtrans HK.out HK7.out)
  have x0 := HXB.out.cells.1.1
  by_cases hx0 : xe = 0
  · subst hx0
    have HPA := hide1 (checkQ_ok HQ6.out rfl)
    have HFA := hide1 (HPA.out.2.1.facts HLEN.out (Nat.le_refl 2))
    obtain ⟨s0, s1, s2, s3⟩ := HB7.out.facts
    have HBL : Hid (b + 1 < W7.heap.size) := HF7.out.lt
    go_wp2_with (go_at_call 51; refine (yields_is nl nn ps al an cl cn st ap np cp _ (by have := HFA.out.1; omega) (by have := HFA.out.1; omega) HPS.out (HP.out.keep HKw7.out) HFA.out.2.1).mono ?_; rintro e w8 ⟨⟨ye, ya⟩, v8, rfl, hy8, hk8⟩; rw [faultV_eq]; have HY8 := hide1 hy8; have HK8 := hide1 hk8; have HF8 := hide1 (HF7.out.keep hk8); obtain ⟨⟨f0, f1, f2⟩, z0, z1, z2⟩ := HF8.out.cells; clear hy8 hk8)
    refine bodyPost_ret (results_tmp_row rfl _ _ (b + 1) 44 _ (0, 0) _ rfl (HF8.out.fill ye ya) Tryd.underlying44 rfl (fault_size _ _)) rfl ?_
    have HBU : Hid (KeptBut (b + 1) w8 (((w8.setCell ⟨b + 1, 0, none⟩ (.int .i64 ye)).setCell ⟨b + 1, 1, none⟩ (.int .i64 ya)).setCell ⟨b + 1, 2, none⟩ (.string ⟨#[]⟩))) := but_set (but_set (but_set (but_refl (b + 1) w8) _ _) _ _) _ _
    exact ⟨(0, xa), HQ6.out, KeptBut.up (gtrans HKw7.out HK8.out) (by rw [HSZ.out]; omega) HBU.out, .inr ⟨rfl, (ye, ya), v8, rfl, (HY8.out.but HBU.out HBL.out).down HKw7.out.size⟩⟩
  · have b0 : (xe != 0) = true := by simpa using hx0
    have HNX : Hid (xe ≠ 0) := hx0
    clear hx0
    go_upto_region 3 with fail
    clear x0
    refine wp_region_held_drew (S := fun X => KeptBut (b + 1) W7 X) (by kernel_rfl) (but_refl (b + 1) W7) (fun hHeld => ?_)
    refine wpAnyH_take (i := 0) (v := .agg #[.int .i64 xe, .int .i64 xa, .string ⟨#[]⟩]) rfl (by kernel_rfl) (by kernel_rfl) (by kernel_rfl) (fun _ _ _ h => h) (Or.inl ⟨by rfl, fun w' hSw => ?_⟩) (by with_reducible assumption) ?_
    · obtain ⟨⟨s0, s1, s2⟩, _⟩ := (HXB.out.but hSw HXD.out).cells
      clear hSw
      go_simp
    try simp only [Act.put, List.setIfInBounds_toArray, List.set_cons_zero, List.set_cons_succ]
    refine wpAnyH_take (i := 1) (v := .slice none 0 0) rfl (by kernel_rfl) (by kernel_rfl) (by kernel_rfl) (fun _ _ _ h => h) (Or.inl ⟨by rfl, fun w' hSw => ?_⟩) (by with_reducible assumption) ?_
    · clear hSw
      go_simp
    try simp only [Act.put, List.setIfInBounds_toArray, List.set_cons_zero, List.set_cons_succ]
    have HKX := hide1 (drew_kept W7)
    obtain ⟨X0, hX0⟩ : ∃ X0, W7.drew = X0 := ⟨_, rfl⟩
    rw [hX0] at hHeld HKX ⊢
    clear hX0
    refine wpAnyH_ready (rs := [2]) (by kernel_rfl) (by simp) ?_
    refine AllReadyH.cons (i := 2) rfl (fun K hK => ?_) AllReadyH.nil
    obtain ⟨⟨f0, f1, f2⟩, z0, z1, z2⟩ := (HF7.out.keep HKX.out).cells
    go_simp
    clear f0 f1 f2 z0 z1 z2
    have HF8 := hide1 ((HF7.out.keep HKX.out).fill xe xa)
    have HK8 : Hid (KeptBut (b + 1) W7 (((X0.setCell ⟨b + 1, 0, none⟩ (.int .i64 xe)).setCell ⟨b + 1, 1, none⟩ (.int .i64 xa)).setCell ⟨b + 1, 2, none⟩ (.string ⟨#[]⟩))) := but_set (but_set (but_set (HKX.out.but (b + 1)) _ _) _ _) _ _
    refine hK.out _ _ HK8.out (fun hHeld2 => ?_)
    clear hK K hHeld
    have hHeld := hHeld2
    clear hHeld2
    try simp only [Act.put, List.setIfInBounds_toArray, List.set_cons_zero, List.set_cons_succ]
    refine wpAnyH_done (by kernel_rfl) ?_ _
    clear hHeld
    go_wp2_with fail
    refine bodyPost_ret (results_tmp_row rfl _ _ (b + 1) 44 _ (0, 0) _ rfl HF8.out Tryd.underlying44 rfl (fault_size _ _)) rfl ?_
    exact ⟨(xe, xa), HQ6.out, KeptBut.up HKw7.out (by rw [HSZ.out]; omega) HK8.out, .inl ⟨HNX.out, rfl⟩⟩

end Ex
end Go.Proofs.YtggodknnfpegmaaDoor
