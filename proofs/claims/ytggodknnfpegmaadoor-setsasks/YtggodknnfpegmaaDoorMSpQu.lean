import Derived.Test.YtggodknnfpegmaaDoorMSpLs
namespace Go.Proofs.YtggodknnfpegmaaDoor
open Go.RowKit
attribute [local go_sem] Oper.semAt_some
namespace Ex

theorem results_tmp_row {P : Program} {fn : Func} {u p : Tmp} {ty : TypeId} (h : fn.results = #[.tmp u, .cell p ty]) (tmps : Array Value) (w : World) (g : Nat) (t : TypeId) (cs : Array Value) (fr : Nat × Nat) (d : TypeDesc)
    (hp : tmps.getD p undef = .pointer (some ⟨g, 0, none⟩)) (hg : w.heap[g]? = some (.cells cs t fr))
    (hu : P.underlying ty = some d) (hd : (match d with | .struct _ | .array _ _ => true | _ => false) = true) (hi : (P.info? ty).map (·.size) = some cs.size) :
    (results fn tmps).run P w = .ok (.tuple #[tmps.getD u undef, .agg cs]) w := by
  have hp' : tmps[p]?.getD undef = .pointer (some ⟨g, 0, none⟩) := by simpa using hp
  simp [results, h, hp', asAddr, run_loadVar_row w g t ty cs fr d hg hu hd hi]
theorem FlBox.but {w w' : World} {b c : Nat} {e a : Int} (h : FlBox w b e a) (hk : KeptBut c w w') (hc : b ≠ c) : FlBox w' b e a := (hk.2.2.2.2 b h.lt hc).trans h
theorem checkQ_ok {k : Nat} {lex : List (LexM k)} {ps : List ProdM} {nn nl : Nat} {st : Int} {x : Int × Int} (h : CheckQ lex ps nn nl st x) (hx : x.1 = 0) : x = (0, 0) ∧ Passed lex ps nn nl st 2 ∧ ∃ a2 a3 a4, (chkQ lex ps nn nl st 2 a2 ∧ a2.1 = 0) ∧ (chkQ lex ps nn nl st 3 a3 ∧ a3.1 = 0) ∧ (chkQ lex ps nn nl st 4 a4 ∧ a4.1 = 0) := by
  have h0 : Passed lex ps nn nl st 0 := ⟨fun x hx => hx, fun h => by omega, fun h => by omega⟩
  obtain ⟨a0, q0, ⟨n, rfl⟩ | ⟨z0, h⟩⟩ := h
  · exact absurd hx n
  obtain ⟨a1, q1, ⟨n, rfl⟩ | ⟨z1, h⟩⟩ := h
  · exact absurd hx n
  obtain ⟨a2, q2, ⟨n, rfl⟩ | ⟨z2, h⟩⟩ := h
  · exact absurd hx n
  obtain ⟨a3, q3, ⟨n, rfl⟩ | ⟨z3, h⟩⟩ := h
  · exact absurd hx n
  obtain ⟨a4, q4, ⟨n, rfl⟩ | ⟨z4, h⟩⟩ := h
  · exact absurd hx n
  exact ⟨h, (h0.next (by omega) q0 z0).next (by omega) q1 z1, a2, a3, a4, ⟨q2, z2⟩, ⟨q3, z3⟩, ⟨q4, z4⟩⟩
/-- A call that asks Check first. -/
def AskR {k : Nat} (lex : List (LexM k)) (ps : List ProdM) (nn nl : Nat) (st : Int) (Ok : Value → World → Prop) (w : World) (e : Ending) (w' : World) : Prop := ∃ x : Int × Int, CheckQ lex ps nn nl st x ∧ Kept w w' ∧ ((x.1 ≠ 0 ∧ e = .returned (.tuple #[.slice none 0 0, faultV x])) ∨ (x.1 = 0 ∧ ∃ v, e = .returned (.tuple #[v, faultV (0, 0)]) ∧ Ok v w'))
def FollowOk (nl st : Nat) (ps : List ProdM) (nn base : Nat) (v : Value) (w' : World) : Prop := ∃ F G : Nat → Nat, (∀ n, G n < 2 ^ 128) ∧ (∀ x, famS F x ↔ Fi nl (Mk false ps) ps x) ∧ (∀ x, famS G x ↔ Fo nl st (Mk false ps) (famS F) ps x) ∧ RowsO w' base v ((List.range nn).map fun i => bitsTo (G i) 128)
def FirstOk (nl : Nat) (ps : List ProdM) (nn base : Nat) (v : Value) (w' : World) : Prop := ∃ F : Nat → Nat, (∀ n, F n < 2 ^ 128) ∧ (∀ x, famS F x ↔ Fi nl (Mk false ps) ps x) ∧ RowsO w' base v ((List.range nn).map fun i => bitsTo (F i) 128)
theorem RowsO.down {w : World} {base base' : Nat} {v : Value} {ls : List (List Int)} (h : RowsO w base v ls) (hb : base' ≤ base) : RowsO w base' v ls := by
  obtain ⟨g, vs, B, h1, h2, h3, h4, h5⟩ := h
  exact ⟨g, vs, B, h1, Nat.le_trans hb h2, h3, h4, h5⟩
theorem RowsO.but {w w' : World} {base c : Nat} {v : Value} {ls : List (List Int)} (h : RowsO w base v ls) (hk : KeptBut c w w') (hc : c < base) : RowsO w' base v ls := by
  obtain ⟨g, vs, B, h1, h2, h3, h4, h5⟩ := h
  exact ⟨g, vs, B, h1, h2, h3, h4.but hk (by omega), h5.but hk (by omega)⟩
theorem RowsO.form {w : World} {base : Nat} {v : Value} {ls : List (List Int)} (h : RowsO w base v ls) : ∃ g, v = .slice (some ⟨g, 0, none⟩) ls.length ls.length := by
  obtain ⟨g, vs, B, h1, _⟩ := h
  exact ⟨g, h1⟩
set_option linter.unusedSimpArgs false in
set_option maxRecDepth 100000 in
set_option maxHeartbeats 8000000 in
/-- Follow of any spec. -/
theorem sFollow_is (k : Nat) (lex : List (LexM k)) (ps : List ProdM) (al an ap : Option Addr) (nl cl nn cn np cp : Nat) (st : Int) (w : World) (hnn : nn ≤ 17592186044416) (hlex : lex.length = nl) (hps : ps.length = np) (hl : LexAt w k (.slice al nl cl) lex) (hp : ProdsAt w (.slice ap np cp) ps) (hT : TabAt w) :
    Calls Tryd.prog 22 #[.agg #[.slice al nl cl, .slice an nn cn, .int .i64 st, .slice ap np cp]] w (AskR lex ps nn nl st (FollowOk nl st.toNat ps nn w.heap.size) w) := by
  obtain ⟨h1, h2, h3⟩ := chk_start w (.slice al nl cl) (.slice an nn cn) (.int .i64 st) (.slice ap np cp)
  have HB := hide1 h1
  have HF := hide1 h2
  have HK := hide1 h3
  have HC := hide1 (sCheck_is k lex ps al an ap nl cl nn cn np cp st _ hnn hlex hps (hl.keep h3) (hp.keep h3))
  have HP := hide1 hp
  have HPS := hide1 hps
  have HLEN := hide1 hlex
  have HT := hide1 hT
  clear h1 h2 h3 hp hps hl hlex hnn hT
  go_enter Tryd.func22, Tryd.ntmps22
  go_upto_region 1 with fail
  obtain ⟨W, hW⟩ : ∃ W, (w.alloc (.cells #[.slice al nl cl, .slice an nn cn, .int .i64 st, .slice ap np cp] 26)).alloc (.cells #[.int .i64 0, .int .i64 0, .string ⟨#[]⟩] 44) = W := ⟨_, rfl⟩
  rw [hW] at HB HF HK HC ⊢
  clear hW
  obtain ⟨b, hb⟩ : ∃ b, w.heap.size = b := ⟨_, rfl⟩
  rw [hb] at HB HF ⊢
  have HSZ := hide1 hb
  clear hb
  obtain ⟨s0, s1, s2, s3⟩ := HB.out.facts
  go_upto_region 2 with (go_at_call 35; refine HC.out.mono ?_; rintro e w6 ⟨⟨xe, xa⟩, rfl, hq6, hk6⟩; rw [faultV_eq]; have HQ6 := hide1 hq6; have HK6 := hide1 hk6; clear hq6 hk6)
  clear s0 s1 s2 s3
  have HXB : Hid (FlBox (w6.alloc (.cells #[.int .i64 xe, .int .i64 xa, .string ⟨#[]⟩] 44)) w6.heap.size xe xa) := heap_alloc_new w6 _
  have HK7 := hide1 (gtrans HK6.out ((Kept.refl w6).alloc #[.int .i64 xe, .int .i64 xa, .string ⟨#[]⟩] 44))
  obtain ⟨W7, hW7⟩ : ∃ W7, w6.alloc (.cells #[.int .i64 xe, .int .i64 xa, .string ⟨#[]⟩] 44) = W7 := ⟨_, rfl⟩
  rw [hW7] at HXB HK7 ⊢
  clear hW7
  have HXW : Hid (W.heap.size ≤ w6.heap.size) := HK6.out.size
  obtain ⟨xb, hxb⟩ : ∃ xb, w6.heap.size = xb := ⟨_, rfl⟩
  rw [hxb] at HXB HXW ⊢
  clear hxb
  have HXD : Hid (xb ≠ b + 1) := by have := HF.out.lt; have := HXW.out; show _ ≠ _; omega
  have HF7 := hide1 (HF.out.keep HK7.out)
  have HB7 := hide1 (HB.out.keep HK7.out)
  have HKw7 := hide1 (gtrans HK.out HK7.out)
  have x0 := HXB.out.cells.1.1
  by_cases hx0 : xe = 0
  · subst hx0
    have HPA := hide1 (checkQ_ok HQ6.out rfl)
    have HFA := hide1 (HPA.out.2.1.facts HLEN.out (Nat.le_refl 2))
    obtain ⟨stn, rfl⟩ : ∃ stn : Nat, st = (stn : Int) := ⟨st.toNat, by have := HFA.out.1; omega⟩
    have HSTN : Hid (stn < 128) := by have := HFA.out.1; show _ < _; omega
    obtain ⟨s0, s1, s2, s3⟩ := HB7.out.facts
    go_upto_region 5 with (first
      | (go_at_call 38; refine (gNew_is nl ps al an ap cl nn cn np cp _ _ (by have := HFA.out.1; omega) HPS.out (HP.out.keep HKw7.out) HFA.out.2.1).mono ?_; rintro e w8 ⟨E, F, rfl, hE, hF, hFi, hk8⟩; have HE := hide1 hE; have HFB := hide1 hF; have HFI := hide1 hFi; have HK8 := hide1 hk8; clear hE hF hFi hk8)
      | (refine wpList_store_row rfl 91 _ _ rfl w8.heap.size (grL (.slice al nl cl) (.slice an nn cn) (.int .i64 (stn : Int)) (.slice ap np cp) E F).toArray rfl rfl 91 (grL (.slice none 0 0) (.slice none 0 0) (.int .i64 0) (.slice none 0 0) 0 fun _ => 0).toArray (by exact gr_zero w8) (gr_size _ _ _ _ E F) (gr_sizes _ _ _ _ _ _ _ _ _ _ _ _) (gr_one ⟨rfl, rfl, rfl, rfl⟩) ?_))
    clear s0 s1 s2 s3
    have HG9 : Hid (GrB ((w8.alloc (.cells Tryd.zeroCells91 91)).setRow w8.heap.size (grL (.slice al nl cl) (.slice an nn cn) (.int .i64 (stn : Int)) (.slice ap np cp) E F).toArray) w8.heap.size (.slice al nl cl) (.slice an nn cn) (.int .i64 (stn : Int)) (.slice ap np cp) E F) := setRow_heap _ _ _ _ _ _ (gr_zero w8)
    have HK9 : Hid (Kept W7 ((w8.alloc (.cells Tryd.zeroCells91 91)).setRow w8.heap.size (grL (.slice al nl cl) (.slice an nn cn) (.int .i64 (stn : Int)) (.slice ap np cp) E F).toArray)) := KeptBut.up (gtrans HK8.out ((Kept.refl w8).alloc _ _)) HK8.out.size (setRow_butS _ _ _)
    have HGL : Hid (W7.heap.size ≤ w8.heap.size) := HK8.out.size
    obtain ⟨W9, hW9⟩ : ∃ W9, (w8.alloc (.cells Tryd.zeroCells91 91)).setRow w8.heap.size (grL (.slice al nl cl) (.slice an nn cn) (.int .i64 (stn : Int)) (.slice ap np cp) E F).toArray = W9 := ⟨_, rfl⟩
    rw [hW9] at HG9 HK9 ⊢
    clear hW9
    obtain ⟨gb, hgb⟩ : ∃ gb, w8.heap.size = gb := ⟨_, rfl⟩
    rw [hgb] at HG9 HGL ⊢
    clear hgb
    have HGD : Hid (gb ≠ b + 1) := by have := HF7.out.lt; have := HGL.out; show _ ≠ _; omega
    have HF9 := hide1 (HF7.out.keep HK9.out)
    have HB9 := hide1 (HB7.out.keep HK9.out)
    have HKw9 := hide1 (gtrans HKw7.out HK9.out)
    have HBL : Hid (b + 1 < W9.heap.size) := HF9.out.lt
    refine wp_region_held_drew (S := fun X => KeptBut (b + 1) W9 X) (by kernel_rfl) (but_refl (b + 1) W9) (fun hHeld => ?_)
    refine wpAnyH_take (i := 0) (v := .agg #[.slice al nl cl, .slice an nn cn, .int .i64 (stn : Int), .slice ap np cp]) rfl (by kernel_rfl) (by kernel_rfl) (by kernel_rfl) (fun _ _ _ h => h) (Or.inl ⟨by rfl, fun w' hSw => ?_⟩) (by with_reducible assumption) ?_
    · obtain ⟨s0, s1, s2, s3⟩ := (HB9.out.but hSw (by omega)).facts
      clear hSw
      go_simp
    try simp only [Act.put, List.setIfInBounds_toArray, List.set_cons_zero, List.set_cons_succ]
    refine wpAnyH_take (i := 3) (v := .agg #[.int .i64 0, .int .i64 0, .string ⟨#[]⟩]) rfl (by kernel_rfl) (by kernel_rfl) (by kernel_rfl) (fun _ _ _ h => h) (Or.inl ⟨by rfl, fun w' hSw => ?_⟩) (by with_reducible assumption) ?_
    · clear hSw
      go_simp
    try simp only [Act.put, List.setIfInBounds_toArray, List.set_cons_zero, List.set_cons_succ]
    refine wpAnyH_ready (rs := [1]) (by kernel_rfl) (by simp) ?_
    refine AllReadyH.cons (i := 1) rfl (fun K hK => ?_) AllReadyH.nil
    go_simp
    go_wp2_with (go_at_call 50; refine (gFollow_is gb E nl stn F ps al cl _ ap np cp _ (by have := HFA.out.1; omega) HSTN.out HFB.out HPS.out (HG9.out.keep (drew_kept W9)) (HP.out.keep (gtrans HKw9.out (drew_kept W9))) HFA.out.2.1).mono ?_; rintro e w10 ⟨G, rfl, hgb, hgf, hk10⟩; have HGB := hide1 hgb; have HGF := hide1 hgf; have HK10 := hide1 (gtrans (drew_kept W9) hk10); clear hgb hgf hk10)
    refine hK.out _ _ (HK10.out.but (b + 1)) (fun hHeld2 => ?_)
    clear hK K hHeld
    have hHeld := hHeld2
    clear hHeld2
    try simp only [Act.put, List.setIfInBounds_toArray, List.set_cons_zero, List.set_cons_succ]
    refine wpAnyH_ready (rs := [2]) (by kernel_rfl) (by simp) ?_
    refine AllReadyH.cons (i := 2) rfl (fun K hK => ?_) AllReadyH.nil
    go_simp
    go_wp2_with (go_at_call 49; refine (lists_is G _ _ _ an nn cn _ (by have := HFA.out.1; omega) (HT.out.keep (gtrans HKw9.out HK10.out))).mono ?_; rintro e w11 ⟨⟨v11, rfl, ho11⟩, hk11⟩; have HV11 := hide1 (ho11.down (base' := W9.heap.size) HK10.out.size); have HK11 := hide1 (gtrans HK10.out hk11); clear ho11 hk11)
    refine hK.out _ _ (HK11.out.but (b + 1)) (fun hHeld2 => ?_)
    clear hK K hHeld
    have hHeld := hHeld2
    clear hHeld2
    try simp only [Act.put, List.setIfInBounds_toArray, List.set_cons_zero, List.set_cons_succ]
    refine wpAnyH_take (i := 4) (v := v11) rfl (by kernel_rfl) (by kernel_rfl) (by kernel_rfl) (fun _ _ _ h => h) (Or.inl ⟨by rfl, fun w' hSw => ?_⟩) (by with_reducible assumption) ?_
    · clear hSw
      go_simp
    try simp only [Act.put, List.setIfInBounds_toArray, List.set_cons_zero, List.set_cons_succ]
    refine wpAnyH_ready (rs := [5]) (by kernel_rfl) (by simp) ?_
    refine AllReadyH.cons (i := 5) rfl (fun K hK => ?_) AllReadyH.nil
    obtain ⟨⟨f0, f1, f2⟩, z0, z1, z2⟩ := (HF9.out.keep HK11.out).cells
    go_simp
    clear f0 f1 f2 z0 z1 z2
    have HF12 := hide1 ((HF9.out.keep HK11.out).fill 0 0)
    have HBU : Hid (KeptBut (b + 1) w11 (((w11.setCell ⟨b + 1, 0, none⟩ (.int .i64 0)).setCell ⟨b + 1, 1, none⟩ (.int .i64 0)).setCell ⟨b + 1, 2, none⟩ (.string ⟨#[]⟩))) := but_set (but_set (but_set (but_refl (b + 1) w11) _ _) _ _) _ _
    have HK12 := hide1 ((HK11.out.but (b + 1)).trans HBU.out)
    have HV12 := hide1 ((HV11.out.but HBU.out HBL.out).down (base' := w.heap.size) HKw9.out.size)
    refine hK.out _ _ HK12.out (fun hHeld2 => ?_)
    clear hK K hHeld
    have hHeld := hHeld2
    clear hHeld2
    try simp only [Act.put, List.setIfInBounds_toArray, List.set_cons_zero, List.set_cons_succ]
    refine wpAnyH_done (by kernel_rfl) ?_ _
    clear hHeld
    go_wp2_with fail
    refine bodyPost_ret (results_tmp_row rfl _ _ (b + 1) 44 _ (0, 0) _ rfl HF12.out Tryd.underlying44 rfl (fault_size _ _)) rfl ?_
    have hE : (fun n => E.testBit n = true) = Mk false ps := funext (fun n => propext (HE.out n))
    refine ⟨(0, xa), HQ6.out, KeptBut.up HKw9.out (by rw [HSZ.out]; omega) HK12.out, .inr ⟨rfl, _, rfl, F, G, HGB.out, HFI.out, ?_, ?_⟩⟩
    · have h := HGF.out
      rw [hE] at h
      exact h
    · exact HV12.out
  · have b0 : (xe != 0) = true := by simpa using hx0
    have HNX : Hid (xe ≠ 0) := hx0
    clear hx0
    go_upto_region 3 with fail
    clear x0
    refine wp_region_held_drew (S := fun X => KeptBut (b + 1) W7 X) (by kernel_rfl) (but_refl (b + 1) W7) (fun hHeld => ?_)
    refine wpAnyH_take (i := 0) (v := .agg #[.int .i64 xe, .int .i64 xa, .string ⟨#[]⟩]) rfl (by kernel_rfl) (by kernel_rfl) (by kernel_rfl) (fun _ _ _ h => h) (Or.inl ⟨by rfl, fun w' hSw => ?_⟩) (by with_reducible assumption) ?_
    · obtain ⟨⟨s0, s1, s2⟩, _⟩ := (HXB.out.but hSw HXD.out).cells
      clear hSw
      go_simp
    try simp only [Act.put, List.setIfInBounds_toArray, List.set_cons_zero, List.set_cons_succ]
    refine wpAnyH_take (i := 1) (v := .slice none 0 0) rfl (by kernel_rfl) (by kernel_rfl) (by kernel_rfl) (fun _ _ _ h => h) (Or.inl ⟨by rfl, fun w' hSw => ?_⟩) (by with_reducible assumption) ?_
    · clear hSw
      go_simp
    try simp only [Act.put, List.setIfInBounds_toArray, List.set_cons_zero, List.set_cons_succ]
    have HKX := hide1 (drew_kept W7)
    obtain ⟨X0, hX0⟩ : ∃ X0, W7.drew = X0 := ⟨_, rfl⟩
    rw [hX0] at hHeld HKX ⊢
    clear hX0
    refine wpAnyH_ready (rs := [2]) (by kernel_rfl) (by simp) ?_
    refine AllReadyH.cons (i := 2) rfl (fun K hK => ?_) AllReadyH.nil
    obtain ⟨⟨f0, f1, f2⟩, z0, z1, z2⟩ := (HF7.out.keep HKX.out).cells
    go_simp
    clear f0 f1 f2 z0 z1 z2
    have HF8 := hide1 ((HF7.out.keep HKX.out).fill xe xa)
    have HK8 : Hid (KeptBut (b + 1) W7 (((X0.setCell ⟨b + 1, 0, none⟩ (.int .i64 xe)).setCell ⟨b + 1, 1, none⟩ (.int .i64 xa)).setCell ⟨b + 1, 2, none⟩ (.string ⟨#[]⟩))) := but_set (but_set (but_set (HKX.out.but (b + 1)) _ _) _ _) _ _
    refine hK.out _ _ HK8.out (fun hHeld2 => ?_)
    clear hK K hHeld
    have hHeld := hHeld2
    clear hHeld2
    try simp only [Act.put, List.setIfInBounds_toArray, List.set_cons_zero, List.set_cons_succ]
    refine wpAnyH_done (by kernel_rfl) ?_ _
    clear hHeld
    go_wp2_with fail
    refine bodyPost_ret (results_tmp_row rfl _ _ (b + 1) 44 _ (0, 0) _ rfl HF8.out Tryd.underlying44 rfl (fault_size _ _)) rfl ?_
    exact ⟨(xe, xa), HQ6.out, KeptBut.up HKw7.out (by rw [HSZ.out]; omega) HK8.out, .inl ⟨HNX.out, rfl⟩⟩

end Ex
end Go.Proofs.YtggodknnfpegmaaDoor
