import Derived.Test.YtooelfjceehmmaaDoorMSpLs
import Derived.Test.YtooelfjceehmmaaDoorMSpYt
namespace Go.Proofs.YtooelfjceehmmaaDoor
open Go.RowKit
attribute [local go_sem] Oper.semAt_some
namespace Ex

theorem results_tmp_row {P : Program} {fn : Func} {u p : Tmp} {ty : TypeId} (h : fn.results = #[.tmp u, .cell p ty]) (tmps : Array Value) (w : World) (g : Nat) (t : TypeId) (cs : Array Value) (fr : Nat × Nat) (d : TypeDesc)
    (hp : tmps.getD p undef = .pointer (some ⟨g, 0, none⟩)) (hg : w.heap[g]? = some (.cells cs t fr))
    (hu : P.underlying ty = some d) (hd : (match d with | .struct _ | .array _ _ => true | _ => false) = true) (hi : (P.info? ty).map (·.size) = some cs.size) :
    (results fn tmps).run P w = .ok (.tuple #[tmps.getD u undef, .agg cs]) w := by
  have hp' : tmps[p]?.getD undef = .pointer (some ⟨g, 0, none⟩) := by simpa using hp
  simp [results, h, hp', asAddr, run_loadVar_row w g t ty cs fr d hg hu hd hi]
theorem FlBox.but {w w' : World} {b c : Nat} {e a : Int} (h : FlBox w b e a) (hk : KeptBut c w w') (hc : b ≠ c) : FlBox w' b e a := (hk.2.2.2.2 b h.lt hc).trans h
theorem checkQ_ok {k : Nat} {lex : List (LexM k)} {ps : List ProdM} {nn nl : Nat} {st : Int} {x : Int × Int} (h : CheckQ lex ps nn nl st x) (hx : x.1 = 0) : x = (0, 0) ∧ Passed lex ps nn nl st 2 ∧ ∃ a2 a3 a4, (chkQ lex ps nn nl st 2 a2 ∧ a2.1 = 0) ∧ (chkQ lex ps nn nl st 3 a3 ∧ a3.1 = 0) ∧ (chkQ lex ps nn nl st 4 a4 ∧ a4.1 = 0) := by
  have h0 : Passed lex ps nn nl st 0 := ⟨fun x hx => hx, fun h => by omega, fun h => by omega⟩
  obtain ⟨a0, q0, ⟨n, rfl⟩ | ⟨z0, h⟩⟩ := h
  · exact absurd hx n
  obtain ⟨a1, q1, ⟨n, rfl⟩ | ⟨z1, h⟩⟩ := h
  · exact absurd hx n
  obtain ⟨a2, q2, ⟨n, rfl⟩ | ⟨z2, h⟩⟩ := h
  · exact absurd hx n
  obtain ⟨a3, q3, ⟨n, rfl⟩ | ⟨z3, h⟩⟩ := h
  · exact absurd hx n
  obtain ⟨a4, q4, ⟨n, rfl⟩ | ⟨z4, h⟩⟩ := h
  · exact absurd hx n
  exact ⟨h, (h0.next (by omega) q0 z0).next (by omega) q1 z1, a2, a3, a4, ⟨q2, z2⟩, ⟨q3, z3⟩, ⟨q4, z4⟩⟩
/-- A call that asks Check first. -/
def AskR {k : Nat} (lex : List (LexM k)) (ps : List ProdM) (nn nl : Nat) (st : Int) (Ok : Value → World → Prop) (w : World) (e : Ending) (w' : World) : Prop := ∃ x : Int × Int, CheckQ lex ps nn nl st x ∧ Kept w w' ∧ ((x.1 ≠ 0 ∧ e = .returned (.tuple #[.slice none 0 0, faultV x])) ∨ (x.1 = 0 ∧ ∃ v, e = .returned (.tuple #[v, faultV (0, 0)]) ∧ Ok v w'))
def FollowOk (nl st : Nat) (ps : List ProdM) (nn base : Nat) (v : Value) (w' : World) : Prop := ∃ F G : Nat → Nat, (∀ n, G n < 2 ^ 128) ∧ (∀ x, famS F x ↔ Fi nl (Mk false ps) ps x) ∧ (∀ x, famS G x ↔ Fo nl st (Mk false ps) (famS F) ps x) ∧ RowsO w' base v ((List.range nn).map fun i => bitsTo (G i) 128)
def FirstOk (nl : Nat) (ps : List ProdM) (nn base : Nat) (v : Value) (w' : World) : Prop := ∃ F : Nat → Nat, (∀ n, F n < 2 ^ 128) ∧ (∀ x, famS F x ↔ Fi nl (Mk false ps) ps x) ∧ RowsO w' base v ((List.range nn).map fun i => bitsTo (F i) 128)
theorem RowsO.down {w : World} {base base' : Nat} {v : Value} {ls : List (List Int)} (h : RowsO w base v ls) (hb : base' ≤ base) : RowsO w base' v ls := by
  obtain ⟨g, vs, B, h1, h2, h3, h4, h5⟩ := h
  exact ⟨g, vs, B, h1, Nat.le_trans hb h2, h3, h4, h5⟩
theorem RowsO.but {w w' : World} {base c : Nat} {v : Value} {ls : List (List Int)} (h : RowsO w base v ls) (hk : KeptBut c w w') (hc : c < base) : RowsO w' base v ls := by
  obtain ⟨g, vs, B, h1, h2, h3, h4, h5⟩ := h
  exact ⟨g, vs, B, h1, h2, h3, h4.but hk (by omega), h5.but hk (by omega)⟩
theorem RowsO.form {w : World} {base : Nat} {v : Value} {ls : List (List Int)} (h : RowsO w base v ls) : ∃ g, v = .slice (some ⟨g, 0, none⟩) ls.length ls.length := by
  obtain ⟨g, vs, B, h1, _⟩ := h
  exact ⟨g, h1⟩
set_option linter.unusedSimpArgs false in
set_option maxRecDepth 100000 in
set_option maxHeartbeats 8000000 in
/-- Follow of any spec. -/
theorem sFollow_is (k : Nat) (lex : List (LexM k)) (ps : List ProdM) (al an ap : Option Addr) (nl cl nn cn np cp : Nat) (st : Int) (w : World) (hnn : nn ≤ 17592186044416) (hlex : lex.length = nl) (hps : ps.length = np) (hl : LexAt w k (.slice al nl cl) lex) (hp : ProdsAt w (.slice ap np cp) ps) (hT : TabAt w) :
    Calls Tryd.prog 21 #[.agg #[.slice al nl cl, .slice an nn cn, .int .i64 st, .slice ap np cp]] w (AskR lex ps nn nl st (FollowOk nl st.toNat ps nn w.heap.size) w) := by
  obtain ⟨h1, h2, h3⟩ := chk_start w (.slice al nl cl) (.slice an nn cn) (.int .i64 st) (.slice ap np cp)
  have HB := hide1 h1
  have HF := hide1 h2
  have HK := hide1 h3
  have HC := hide1 (sCheck_is k lex ps al an ap nl cl nn cn np cp st _ hnn hlex hps (hl.keep h3) (hp.keep h3))
  have HP := hide1 hp
  have HPS := hide1 hps
  have HLEN := hide1 hlex
  have HT := hide1 hT
  clear h1 h2 h3 hp hps hl hlex hnn hT
  go_enter Tryd.func21, Tryd.ntmps21
  go_upto_region 1 with fail
  obtain ⟨W, hW⟩ : ∃ W, (w.alloc (.cells #[.slice al nl cl, .slice an nn cn, .int .i64 st, .slice ap np cp] 26)).alloc (.cells #[.int .i64 0, .int .i64 0, .string ⟨#[]⟩] 44) = W := ⟨_, rfl⟩
  rw [hW] at HB HF HK HC ⊢
  clear hW
  obtain ⟨b, hb⟩ : ∃ b, w.heap.size = b := ⟨_, rfl⟩
  rw [hb] at HB HF ⊢
  have HSZ := hide1 hb
  clear hb
  obtain ⟨s0, s1, s2, s3⟩ := HB.out.facts
  go_upto_region 2 with (go_at_call 27; refine HC.out.mono ?_; rintro e w6 ⟨⟨xe, xa⟩, rfl, hq6, hk6⟩; rw [faultV_eq]; have HQ6 := hide1 hq6; have HK6 := hide1 hk6; clear hq6 hk6)
  clear s0 s1 s2 s3
  have HXB : Hid (FlBox (w6.alloc (.cells #[.int .i64 xe, .int .i64 xa, .string ⟨#[]⟩] 44)) w6.heap.size xe xa) := heap_alloc_new w6 _
  have HK7 := hide1 (gtrans HK6.out ((Kept.refl w6).alloc #[.int .i64 xe, .int .i64 xa, .string ⟨#[]⟩] 44))
  obtain ⟨W7, hW7⟩ : ∃ W7, w6.alloc (.cells #[.int .i64 xe, .int .i64 xa, .string ⟨#[]⟩] 44) = W7 := ⟨_, rfl⟩
  rw [hW7] at HXB HK7 ⊢
  clear hW7
  have HXW : Hid (W.heap.size ≤ w6.heap.size) := HK6.out.size
  obtain ⟨xb, hxb⟩ : ∃ xb, w6.heap.size = xb := ⟨_, rfl⟩
  rw [hxb] at HXB HXW ⊢
  clear hxb
  have HXD : Hid (xb ≠ b + 1) := by have := HF.out.lt; have := HXW.out; show _ ≠ _; omega
  have HF7 := hide1 (HF.out.keep HK7.out)
  have HB7 := hide1 (HB.out.keep HK7.out)
  have HKw7 := hide1 (gtrans HK.out HK7.out)
  have x0 := HXB.out.cells.1.1
  by_cases hx0 : xe = 0
  · subst hx0
    have HPA := hide1 (checkQ_ok HQ6.out rfl)
    have HFA := hide1 (HPA.out.2.1.facts HLEN.out (Nat.le_refl 2))
    obtain ⟨stn, rfl⟩ : ∃ stn : Nat, st = (stn : Int) := ⟨st.toNat, by have := HFA.out.1; omega⟩
    have HSTN : Hid (stn < 128) := by have := HFA.out.1; show _ < _; omega
    obtain ⟨s0, s1, s2, s3⟩ := HB7.out.facts
    go_upto_region 5 with (first
      | (go_at_call 30; refine (gNew_is nl ps al an ap cl nn cn np cp _ _ (by have := HFA.out.1; omega) HPS.out (HP.out.keep HKw7.out) HFA.out.2.1).mono ?_; rintro e w8 ⟨E, F, rfl, hE, hF, hFi, hk8⟩; have HE := hide1 hE; have HFB := hide1 hF; have HFI := hide1 hFi; have HK8 := hide1 hk8; clear hE hF hFi hk8)
      | (refine wpList_store_row rfl 81 _ _ rfl w8.heap.size (grL (.slice al nl cl) (.slice an nn cn) (.int .i64 (stn : Int)) (.slice ap np cp) E F).toArray rfl rfl 81 (grL (.slice none 0 0) (.slice none 0 0) (.int .i64 0) (.slice none 0 0) 0 fun _ => 0).toArray (by exact gr_zero w8) (gr_size _ _ _ _ E F) (gr_sizes _ _ _ _ _ _ _ _ _ _ _ _) (gr_one ⟨rfl, rfl, rfl, rfl⟩) ?_))
    clear s0 s1 s2 s3
    have HG9 : Hid (GrB ((w8.alloc (.cells Tryd.zeroCells81 81)).setRow w8.heap.size (grL (.slice al nl cl) (.slice an nn cn) (.int .i64 (stn : Int)) (.slice ap np cp) E F).toArray) w8.heap.size (.slice al nl cl) (.slice an nn cn) (.int .i64 (stn : Int)) (.slice ap np cp) E F) := setRow_heap _ _ _ _ _ _ (gr_zero w8)
    have HK9 : Hid (Kept W7 ((w8.alloc (.cells Tryd.zeroCells81 81)).setRow w8.heap.size (grL (.slice al nl cl) (.slice an nn cn) (.int .i64 (stn : Int)) (.slice ap np cp) E F).toArray)) := KeptBut.up (gtrans HK8.out ((Kept.refl w8).alloc _ _)) HK8.out.size (setRow_butS _ _ _)
    have HGL : Hid (W7.heap.size ≤ w8.heap.size) := HK8.out.size
    obtain ⟨W9, hW9⟩ : ∃ W9, (w8.alloc (.cells Tryd.zeroCells81 81)).setRow w8.heap.size (grL (.slice al nl cl) (.slice an nn cn) (.int .i64 (stn : Int)) (.slice ap np cp) E F).toArray = W9 := ⟨_, rfl⟩
    rw [hW9] at HG9 HK9 ⊢
    clear hW9
    obtain ⟨gb, hgb⟩ : ∃ gb, w8.heap.size = gb := ⟨_, rfl⟩
    rw [hgb] at HG9 HGL ⊢
    clear hgb
    have HGD : Hid (gb ≠ b + 1) := by have := HF7.out.lt; have := HGL.out; show _ ≠ _; omega
    have HF9 := hide1 (HF7.out.keep HK9.out)
    have HB9 := hide1 (HB7.out.keep HK9.out)
    have HKw9 := hide1 (gtrans HKw7.out HK9.out)
    have HBL : Hid (b + 1 < W9.heap.size) := HF9.out.lt
    refine wp_region_held_drew (S := fun X => KeptBut (b + 1) W9 X) (by kernel_rfl) (but_refl (b + 1) W9) (fun hHeld => ?_)
    refine wpAnyH_take (i := 0) (v := .agg #[.slice al nl cl, .slice an nn cn, .int .i64 (stn : Int), .slice ap np cp]) rfl (by kernel_rfl) (by kernel_rfl) (by kernel_rfl) (fun _ _ _ h => h) (Or.inl ⟨by rfl, fun w' hSw => ?_⟩) (by with_reducible assumption) ?_
    · obtain ⟨s0, s1, s2, s3⟩ := (HB9.out.but hSw (by omega)).facts
      clear hSw
      go_simp
    try simp only [Act.put, List.setIfInBounds_toArray, List.set_cons_zero, List.set_cons_succ]
    refine wpAnyH_take (i := 3) (v := .agg #[.int .i64 0, .int .i64 0, .string ⟨#[]⟩]) rfl (by kernel_rfl) (by kernel_rfl) (by kernel_rfl) (fun _ _ _ h => h) (Or.inl ⟨by rfl, fun w' hSw => ?_⟩) (by with_reducible assumption) ?_
    · clear hSw
      go_simp
    try simp only [Act.put, List.setIfInBounds_toArray, List.set_cons_zero, List.set_cons_succ]
    refine wpAnyH_ready (rs := [1]) (by kernel_rfl) (by simp) ?_
    refine AllReadyH.cons (i := 1) rfl (fun K hK => ?_) AllReadyH.nil
    go_simp
    go_wp2_with (go_at_call 46; refine (gFollow_is gb E nl stn F ps al cl _ ap np cp _ (by have := HFA.out.1; omega) HSTN.out HFB.out HPS.out (HG9.out.keep (drew_kept W9)) (HP.out.keep (gtrans HKw9.out (drew_kept W9))) HFA.out.2.1).mono ?_; rintro e w10 ⟨G, rfl, hgb, hgf, hk10⟩; have HGB := hide1 hgb; have HGF := hide1 hgf; have HK10 := hide1 (gtrans (drew_kept W9) hk10); clear hgb hgf hk10)
    refine hK.out _ _ (HK10.out.but (b + 1)) (fun hHeld2 => ?_)
    clear hK K hHeld
    have hHeld := hHeld2
    clear hHeld2
    try simp only [Act.put, List.setIfInBounds_toArray, List.set_cons_zero, List.set_cons_succ]
    refine wpAnyH_ready (rs := [2]) (by kernel_rfl) (by simp) ?_
    refine AllReadyH.cons (i := 2) rfl (fun K hK => ?_) AllReadyH.nil
    go_simp
    go_wp2_with (go_at_call 45; refine (lists_is G _ _ _ an nn cn _ (by have := HFA.out.1; omega) (HT.out.keep (gtrans HKw9.out HK10.out))).mono ?_; rintro e w11 ⟨⟨v11, rfl, ho11⟩, hk11⟩; have HV11 := hide1 (ho11.down (base' := W9.heap.size) HK10.out.size); have HK11 := hide1 (gtrans HK10.out hk11); clear ho11 hk11)
    refine hK.out _ _ (HK11.out.but (b + 1)) (fun hHeld2 => ?_)
    clear hK K hHeld
    have hHeld := hHeld2
    clear hHeld2
    try simp only [Act.put, List.setIfInBounds_toArray, List.set_cons_zero, List.set_cons_succ]
    refine wpAnyH_take (i := 4) (v := v11) rfl (by kernel_rfl) (by kernel_rfl) (by kernel_rfl) (fun _ _ _ h => h) (Or.inl ⟨by rfl, fun w' hSw => ?_⟩) (by with_reducible assumption) ?_
    · clear hSw
      go_simp
    try simp only [Act.put, List.setIfInBounds_toArray, List.set_cons_zero, List.set_cons_succ]
    refine wpAnyH_ready (rs := [5]) (by kernel_rfl) (by simp) ?_
    refine AllReadyH.cons (i := 5) rfl (fun K hK => ?_) AllReadyH.nil
    obtain ⟨⟨f0, f1, f2⟩, z0, z1, z2⟩ := (HF9.out.keep HK11.out).cells
    go_simp
    clear f0 f1 f2 z0 z1 z2
    have HF12 := hide1 ((HF9.out.keep HK11.out).fill 0 0)
    have HBU : Hid (KeptBut (b + 1) w11 (((w11.setCell ⟨b + 1, 0, none⟩ (.int .i64 0)).setCell ⟨b + 1, 1, none⟩ (.int .i64 0)).setCell ⟨b + 1, 2, none⟩ (.string ⟨#[]⟩))) := but_set (but_set (but_set (but_refl (b + 1) w11) _ _) _ _) _ _
    have HK12 := hide1 ((HK11.out.but (b + 1)).trans HBU.out)
    have HV12 := hide1 ((HV11.out.but HBU.out HBL.out).down (base' := w.heap.size) HKw9.out.size)
    refine hK.out _ _ HK12.out (fun hHeld2 => ?_)
    clear hK K hHeld
    have hHeld := hHeld2
    clear hHeld2
    try simp only [Act.put, List.setIfInBounds_toArray, List.set_cons_zero, List.set_cons_succ]
    refine wpAnyH_done (by kernel_rfl) ?_ _
    clear hHeld
    go_wp2_with fail
    refine bodyPost_ret (results_tmp_row rfl _ _ (b + 1) 44 _ (0, 0) _ rfl HF12.out Tryd.underlying44 rfl (fault_size _ _)) rfl ?_
    have hE : (fun n => E.testBit n = true) = Mk false ps := funext (fun n => propext (HE.out n))
    refine ⟨(0, xa), HQ6.out, KeptBut.up HKw9.out (by rw [HSZ.out]; omega) HK12.out, .inr ⟨rfl, _, rfl, F, G, HGB.out, HFI.out, ?_, ?_⟩⟩
    · have h := HGF.out
      rw [hE] at h
      exact h
    · exact HV12.out
  · have b0 : (xe != 0) = true := by simpa using hx0
    have HNX : Hid (xe ≠ 0) := hx0
    clear hx0
    go_upto_region 3 with fail
    clear x0
    refine wp_region_held_drew (S := fun X => KeptBut (b + 1) W7 X) (by kernel_rfl) (but_refl (b + 1) W7) (fun hHeld => ?_)
    refine wpAnyH_take (i := 0) (v := .agg #[.int .i64 xe, .int .i64 xa, .string ⟨#[]⟩]) rfl (by kernel_rfl) (by kernel_rfl) (by kernel_rfl) (fun _ _ _ h => h) (Or.inl ⟨by rfl, fun w' hSw => ?_⟩) (by with_reducible assumption) ?_
    · obtain ⟨⟨s0, s1, s2⟩, _⟩ := (HXB.out.but hSw HXD.out).cells
      clear hSw
      go_simp
    try simp only [Act.put, List.setIfInBounds_toArray, List.set_cons_zero, List.set_cons_succ]
    refine wpAnyH_take (i := 1) (v := .slice none 0 0) rfl (by kernel_rfl) (by kernel_rfl) (by kernel_rfl) (fun _ _ _ h => h) (Or.inl ⟨by rfl, fun w' hSw => ?_⟩) (by with_reducible assumption) ?_
    · clear hSw
      go_simp
    try simp only [Act.put, List.setIfInBounds_toArray, List.set_cons_zero, List.set_cons_succ]
    have HKX := hide1 (drew_kept W7)
    obtain ⟨X0, hX0⟩ : ∃ X0, W7.drew = X0 := ⟨_, rfl⟩
    rw [hX0] at hHeld HKX ⊢
    clear hX0
    refine wpAnyH_ready (rs := [2]) (by kernel_rfl) (by simp) ?_
    refine AllReadyH.cons (i := 2) rfl (fun K hK => ?_) AllReadyH.nil
    obtain ⟨⟨f0, f1, f2⟩, z0, z1, z2⟩ := (HF7.out.keep HKX.out).cells
    go_simp
    clear f0 f1 f2 z0 z1 z2
    have HF8 := hide1 ((HF7.out.keep HKX.out).fill xe xa)
    have HK8 : Hid (KeptBut (b + 1) W7 (((X0.setCell ⟨b + 1, 0, none⟩ (.int .i64 xe)).setCell ⟨b + 1, 1, none⟩ (.int .i64 xa)).setCell ⟨b + 1, 2, none⟩ (.string ⟨#[]⟩))) := but_set (but_set (but_set (HKX.out.but (b + 1)) _ _) _ _) _ _
    refine hK.out _ _ HK8.out (fun hHeld2 => ?_)
    clear hK K hHeld
    have hHeld := hHeld2
    clear hHeld2
    try simp only [Act.put, List.setIfInBounds_toArray, List.set_cons_zero, List.set_cons_succ]
    refine wpAnyH_done (by kernel_rfl) ?_ _
    clear hHeld
    go_wp2_with fail
    refine bodyPost_ret (results_tmp_row rfl _ _ (b + 1) 44 _ (0, 0) _ rfl HF8.out Tryd.underlying44 rfl (fault_size _ _)) rfl ?_
    exact ⟨(xe, xa), HQ6.out, KeptBut.up HKw7.out (by rw [HSZ.out]; omega) HK8.out, .inl ⟨HNX.out, rfl⟩⟩

end Ex
end Go.Proofs.YtooelfjceehmmaaDoor
namespace Go.Proofs.YtooelfjceehmmaaDoor
open Go.RowKit
attribute [local go_sem] Oper.semAt_some
namespace Ex

theorem strOf_size (zs : List Int) : (strOf zs).size = zs.length := by
  have h := congrArg List.length (strOf_list zs)
  rw [Array.length_toList] at h
  unfold u8s at h
  rw [List.length_map] at h
  exact h
theorem u8s_inj : ∀ (xs ys : List Int), (∀ z ∈ xs, IsB z) → (∀ z ∈ ys, IsB z) → u8s xs = u8s ys → xs = ys
  | [], [], _, _, _ => rfl
  | [], _ :: _, _, _, h => by simp [u8s] at h
  | _ :: _, [], _, _, h => by simp [u8s] at h
  | x :: xs, y :: ys, hx, hy, h => by
    have h2 : UInt8.ofNat x.toNat :: u8s xs = UInt8.ofNat y.toNat :: u8s ys := h
    injection h2 with h3 h4
    rw [(u8_eq (hx x List.mem_cons_self) (hy y List.mem_cons_self)).1 h3, u8s_inj xs ys (fun z hz => hx z (List.mem_cons_of_mem _ hz)) (fun z hz => hy z (List.mem_cons_of_mem _ hz)) h4]
theorem strOf_inj {xs ys : List Int} (hx : ∀ z ∈ xs, IsB z) (hy : ∀ z ∈ ys, IsB z) (h : (strOf xs).toList = (strOf ys).toList) : xs = ys := by
  rw [Lib.toList_data, Lib.toList_data, strOf_list, strOf_list] at h
  exact u8s_inj xs ys hx hy h
/-- Sentences of 128 names. -/
def senL (L : Nat → Option (List Int)) : List Value := (List.range 256).map fun i => if i % 2 = 0 then Value.bool (L (i / 2)).isSome else Value.string (strOf ((L (i / 2)).getD []))
theorem senL_len (L : Nat → Option (List Int)) : (senL L).length = 256 := by simp [senL]
theorem senL_at (L : Nat → Option (List Int)) {i : Nat} (h : i < 256) : (senL L)[i]? = some (if i % 2 = 0 then Value.bool (L (i / 2)).isSome else Value.string (strOf ((L (i / 2)).getD []))) := by simp [senL, h]
theorem senL_known (L : Nat → Option (List Int)) {n : Nat} (h : n < 128) : (senL L)[n * 2]? = some (.bool (L n).isSome) := by
  rw [senL_at L (by omega), if_pos (by omega), show n * 2 / 2 = n by omega]
theorem senL_row (L : Nat → Option (List Int)) {n : Nat} (h : n < 128) : (senL L)[n * 2 + 1]? = some (.string (strOf ((L n).getD []))) := by
  rw [senL_at L (by omega), if_neg (by omega), show (n * 2 + 1) / 2 = n by omega]
theorem senL_set (L : Nat → Option (List Int)) (n : Nat) (x : Option (List Int)) : ((senL L).set (n * 2) (.bool x.isSome)).set (n * 2 + 1) (.string (strOf (x.getD []))) = senL (putL L n x) := by
  apply List.ext_getElem?
  intro i
  by_cases hi : i < 256
  · rw [senL_at _ hi]
    unfold putL
    by_cases e1 : i = n * 2 + 1
    · subst e1
      rw [List.getElem?_set_self (by rw [List.length_set, senL_len]; omega), if_neg (by omega), if_pos (by omega)]
    · rw [List.getElem?_set_ne (by omega)]
      by_cases e0 : i = n * 2
      · subst e0
        rw [List.getElem?_set_self (by rw [senL_len]; omega), if_pos (by omega), if_pos (by omega)]
      · rw [List.getElem?_set_ne (by omega), senL_at _ hi, if_neg (show ¬ i / 2 = n by omega)]
  · rw [List.getElem?_eq_none_iff.2 (by rw [List.length_set, List.length_set, senL_len]; omega), List.getElem?_eq_none_iff.2 (by rw [senL_len]; omega)]
theorem senL_all (L : Nat → Option (List Int)) : (senL L).toArray.all (·.oneCell') = true := by
  rw [Array.all_eq_true_iff_forall_mem]
  intro x hx
  have hx : x ∈ senL L := by simpa using hx
  obtain ⟨i, _, rfl⟩ := List.mem_map.1 hx
  split <;> rfl
def SeB (w : World) (b : Nat) (L : Nat → Option (List Int)) : Prop := Blk w b (senL L) 132
section
variable {w w' : World} {b c : Nat} {L : Nat → Option (List Int)}
theorem SeB.lt (h : SeB w b L) : b < w.heap.size := Blk.lt h
theorem SeB.keep (h : SeB w b L) (hk : Kept w w') : SeB w' b L := Blk.keep h hk
theorem SeB.but (h : SeB w b L) (hk : KeptBut c w w') (hc : b ≠ c) : SeB w' b L := Blk.but h hk hc
theorem SeB.cells (h : SeB w b L) {n : Nat} (hn : n < 128) : w.cell? ⟨b, n * 2, none⟩ = some (.bool (L n).isSome) ∧ w.cell? ⟨b, n * 2 + 1, none⟩ = some (.string (strOf ((L n).getD []))) := ⟨Blk.cell h (senL_known L hn), Blk.cell h (senL_row L hn)⟩
theorem SeB.set (h : SeB w b L) (n : Nat) (x : Option (List Int)) : SeB ((w.setCell ⟨b, n * 2, none⟩ (.bool x.isSome)).setCell ⟨b, n * 2 + 1, none⟩ (.string (strOf (x.getD [])))) b (putL L n x) := by
  unfold SeB
  rw [← senL_set L n x]
  exact (Blk.set h _ _).set _ _
end
theorem sen_size (L : Nat → Option (List Int)) : (Tryd.prog.info? 132).map (·.size) = some (senL L).toArray.size := by rw [List.size_toArray, senL_len]; kernel_rfl
theorem sen_sizes (L L' : Nat → Option (List Int)) : (senL L).toArray.size = (senL L').toArray.size := by rw [List.size_toArray, List.size_toArray, senL_len, senL_len]
theorem zero_sen : Tryd.zeroCells132 = (senL fun _ => none).toArray := by kernel_rfl
theorem sen_zero (w : World) : SeB (w.alloc (.cells Tryd.zeroCells132 132)) w.heap.size (fun _ => none) := by
  rw [zero_sen]
  exact Blk.new w _ _
def eqO (x y : Option (List Int)) : Bool := x.isSome == y.isSome && (strOf (x.getD [])).toList == (strOf (y.getD [])).toList
def eqL (L L' : Nat → Option (List Int)) : Bool := (List.range 128).all fun i => eqO (L i) (L' i)
theorem eqO_eq {x y : Option (List Int)} (hx : ∀ r, x = some r → ∀ z ∈ r, IsB z) (hy : ∀ r, y = some r → ∀ z ∈ r, IsB z) (h : eqO x y = true) : x = y := by
  unfold eqO at h
  rw [Bool.and_eq_true, beq_iff_eq, beq_iff_eq] at h
  cases x with
  | none =>
    cases y with
    | none => rfl
    | some s => simp at h
  | some r =>
    cases y with
    | none => simp at h
    | some s => rw [strOf_inj (hx r rfl) (hy s rfl) h.2]
theorem part_sen (xs : Array Value) (k : Nat) (w : World) : (part 130 xs k).run Tryd.prog w = .ok (.agg (xs.extract k (k + 2))) w := by
  have hu : Tryd.prog.underlying 130 = some (.struct (Tryd.prog.fieldsOf 130)) := by kernel_rfl
  have hs : (Tryd.prog.info? 130).map (·.size) = some 2 := by kernel_rfl
  obtain ⟨i0, h0, h1⟩ := Option.map_eq_some_iff.1 hs
  simp [part, isAgg, run_underlying hu, sizeOf, typeInfo, h0, h1]
theorem sen_part (L : Nat → Option (List Int)) {n : Nat} (hn : n < 128) : (senL L).toArray.extract (n * 2) (n * 2 + 2) = #[.bool (L n).isSome, .string (strOf ((L n).getD []))] := by
  apply Array.ext_getElem?
  intro i
  rw [Array.getElem?_extract]
  have h0 := senL_known L hn
  have h1 := senL_row L hn
  have hl : (senL L).toArray.size = 256 := by rw [List.size_toArray, senL_len]
  match i with
  | 0 => rw [if_pos (by rw [hl]; omega)]; simpa using h0
  | 1 => rw [if_pos (by rw [hl]; omega)]; simpa using h1
  | i + 2 => rw [if_neg (by rw [hl]; omega)]; rfl
set_option maxRecDepth 100000 in
theorem eq_sen (d : Nat) (a b : Bool) (s t : ByteArray) (w : World) : (Op.equalIn (d + 2) 130 (.agg #[.bool a, .string s]) (.agg #[.bool b, .string t])).run Tryd.prog w = .ok (a == b && s.toList == t.toList) w := by
  have ht : Tryd.prog.underlying 130 = some (.struct (Tryd.prog.fieldsOf 130)) := by kernel_rfl
  have hp : Tryd.prog.stoodInHeld 130 = false := by kernel_rfl
  have hf : ((Tryd.prog.fieldsOf 130).toList.map fun f => (f.name, f.type, f.offset)) = [("known", 4, 0), ("row", 9, 1)] := by kernel_rfl
  have hb : Tryd.prog.underlying 4 = some .bool := by kernel_rfl
  have hs : Tryd.prog.underlying 9 = some .string := by kernel_rfl
  rw [run_equalIn_struct w (d + 1) _ _ _ ht hp]
  obtain ⟨fs, hfs⟩ : ∃ fs, (Tryd.prog.fieldsOf 130).toList = fs := ⟨_, rfl⟩
  rw [hfs] at hf ⊢
  match fs, hf with
  | [f0, f1], hf =>
    simp only [List.map_cons, List.map_nil, List.cons.injEq, Prod.mk.injEq, and_true] at hf
    obtain ⟨⟨n0, t0, o0⟩, n1, t1, o1⟩ := hf
    have hpart0 : ∀ (x y : Value) (w : World), (part 4 #[x, y] 0).run Tryd.prog w = .ok x w := by
      intro x y w
      go_simp
    have hpart1 : ∀ (x y : Value) (w : World), (part 9 #[x, y] 1).run Tryd.prog w = .ok y w := by
      intro x y w
      go_simp
    simp only [Op.eqFields, n0, t0, o0, n1, t1, o1, Sem.run_bind, Sem.run_ite, hpart0, hpart1, Result.andThen_ok, run_equalIn_bool w d _ a b hb, run_equalIn_string w d _ s t hs]
    cases h1 : (a == b) <;> cases h2 : (s.toList == t.toList) <;> simp
theorem eqItems_sen (d : Nat) (L L0 : Nat → Option (List Int)) (w : World) : ∀ is : List Nat, (∀ i ∈ is, i < 128) → (Op.eqItems (d + 2) 130 2 (senL L).toArray (senL L0).toArray is).run Tryd.prog w = .ok (is.all fun i => eqO (L i) (L0 i)) w
  | [], _ => by simp [Op.eqItems]
  | i :: is, h => by
    have hi := h i List.mem_cons_self
    simp only [Op.eqItems, Sem.run_bind]
    rw [part_sen, sen_part L hi]
    simp only [Result.andThen_ok]
    rw [part_sen, sen_part L0 hi]
    simp only [Result.andThen_ok]
    rw [eq_sen d]
    simp only [Result.andThen_ok, List.all_cons]
    show _ = Result.ok (eqO (L i) (L0 i) && _) w
    unfold eqO
    cases hb : ((L i).isSome == (L0 i).isSome && (strOf ((L i).getD [])).toList == (strOf ((L0 i).getD [])).toList) with
    | false => simp
    | true =>
      simp only [Bool.not_true, Bool.false_eq_true, if_false, Bool.true_and]
      exact eqItems_sen d L L0 w is (fun j hj => h j (List.mem_cons_of_mem _ hj))
theorem neq_sen (L L0 : Nat → Option (List Int)) (w : World) : (binOp .neq 132 (.agg (senL L).toArray) (.agg (senL L0).toArray)).run Tryd.prog w = .ok (.bool (!eqL L L0)) w := by
  have hu : Tryd.prog.underlying 132 = some (.array 128 130) := by kernel_rfl
  have hi0 : (Tryd.prog.info? 130).isSome = true := by kernel_rfl
  obtain ⟨i, hi⟩ := Option.isSome_iff_exists.1 hi0
  have hc : Tryd.prog.cellsOf 130 = 2 := by kernel_rfl
  rw [run_neq_struct, run_equalIn_array w 9999 _ _ hu hi, hc, eqItems_sen 9997 L L0 w _ (fun i hi => List.mem_range.1 hi)]
  rfl
/-- A sentence as a value. -/
def senV (x : Option (List Int)) : Value := .agg #[.bool x.isSome, .string (strOf (x.getD []))]
theorem senV_eq (x : Option (List Int)) : senV x = .agg #[.bool x.isSome, .string (strOf (x.getD []))] := rfl
/-- A sentence in a box. -/
def SnBox (w : World) (b : Nat) (x : Option (List Int)) : Prop := w.heap[b]? = some (.cells #[.bool x.isSome, .string (strOf (x.getD []))] 130 (0, 0))
theorem SnBox.cells {w : World} {b : Nat} {x : Option (List Int)} (h : SnBox w b x) : (w.cell? ⟨b, 0, none⟩ = some (.bool x.isSome) ∧ w.cell? ⟨b, 1, none⟩ = some (.string (strOf (x.getD [])))) ∧ w.frozen? ⟨b, 0, none⟩ = false ∧ w.frozen? ⟨b, 1, none⟩ = false := by
  unfold SnBox at h
  refine ⟨⟨?_, ?_⟩, ?_, ?_⟩ <;> simp [World.cell?, World.frozen?, h]
theorem SnBox.lt {w : World} {b : Nat} {x : Option (List Int)} (h : SnBox w b x) : b < w.heap.size := (Array.getElem?_eq_some_iff.1 h).1
theorem SnBox.keep {w w' : World} {b : Nat} {x : Option (List Int)} (h : SnBox w b x) (hk : Kept w w') : SnBox w' b x := (hk.2.2.2.2 b h.lt).trans h
theorem SnBox.but {w w' : World} {b c : Nat} {x : Option (List Int)} (h : SnBox w b x) (hk : KeptBut c w w') (hc : b ≠ c) : SnBox w' b x := (hk.2.2.2.2 b h.lt hc).trans h
theorem SnBox.fill {w : World} {b : Nat} {x : Option (List Int)} (h : SnBox w b x) (y : Option (List Int)) : SnBox ((w.setCell ⟨b, 0, none⟩ (.bool y.isSome)).setCell ⟨b, 1, none⟩ (.string (strOf (y.getD [])))) b y := by
  unfold SnBox at h ⊢
  have hl : b < w.heap.size := (Array.getElem?_eq_some_iff.1 h).1
  have he : w.heap[b] = Obj.cells #[.bool x.isSome, .string (strOf (x.getD []))] 130 (0, 0) := by rw [Array.getElem?_eq_getElem hl] at h; exact Option.some.inj h
  simp [World.setCell, Array.getElem_modify, hl, he]
theorem sen2_size (x : Option (List Int)) : (Tryd.prog.info? 130).map (·.size) = some (#[Value.bool x.isSome, Value.string (strOf (x.getD []))]).size := by
  show _ = some 2
  kernel_rfl
set_option linter.unusedSimpArgs false in
set_option maxRecDepth 100000 in
set_option maxHeartbeats 4000000 in
/-- Is a sentence better than another? -/
theorem better_is (x t : Option (List Int)) (w : World) (hx : ∀ r, x = some r → (∀ z ∈ r, IsB z) ∧ r.length ≤ 4096) (ht : ∀ r, t = some r → (∀ z ∈ r, IsB z) ∧ r.length ≤ 4096) :
    Calls Tryd.prog 93 #[.agg #[.bool x.isSome, .string (strOf (x.getD []))], .agg #[.bool t.isSome, .string (strOf (t.getD []))]] w fun e w' => e = .returned (.bool (betterM x t)) ∧ Kept w w' := by
  have HK : Hid (∀ c1 t1 c2 t2, Kept w ((w.alloc (.cells c1 t1)).alloc (.cells c2 t2))) := fun _ _ _ _ => ((Kept.refl w).alloc _ _).alloc _ _
  cases x with
  | none =>
    obtain ⟨s1, hs1⟩ : ∃ s1, strOf ((none : Option (List Int)).getD []) = s1 := ⟨_, rfl⟩
    rw [hs1]
    obtain ⟨s2, hs2⟩ : ∃ s2, strOf (t.getD []) = s2 := ⟨_, rfl⟩
    rw [hs2]
    obtain ⟨k2, hk2⟩ : ∃ k2, t.isSome = k2 := ⟨_, rfl⟩
    rw [hk2]
    rw [show (none : Option (List Int)).isSome = false from rfl]
    clear hs1 hs2 hk2 hx ht
    go_enter Tryd.func93, Tryd.ntmps93
    go_wp2
    go_ret
    exact ⟨rfl, HK.out _ _ _ _⟩
  | some r =>
    obtain ⟨hrb, hrl⟩ := hx r rfl
    have hz1 := strOf_size r
    rw [show (some r).isSome = true from rfl, show (some r).getD [] = r from rfl]
    cases t with
    | none =>
      rw [show (none : Option (List Int)).isSome = false from rfl, show (none : Option (List Int)).getD [] = [] from rfl]
      obtain ⟨s1, hs1⟩ : ∃ s1, strOf r = s1 := ⟨_, rfl⟩
      obtain ⟨s2, hs2⟩ : ∃ s2, strOf [] = s2 := ⟨_, rfl⟩
      rw [hs1, hs2]
      clear hs1 hs2 hx ht hz1
      go_enter Tryd.func93, Tryd.ntmps93
      go_wp2
      go_ret
      exact ⟨rfl, HK.out _ _ _ _⟩
    | some q =>
      obtain ⟨hqb, hql⟩ := ht q rfl
      have hz2 := strOf_size q
      rw [show (some q).isSome = true from rfl, show (some q).getD [] = q from rfl]
      have HL := hide1 (bytes_str hrb hqb)
      obtain ⟨s1, hs1⟩ : ∃ s1, strOf r = s1 := ⟨_, rfl⟩
      obtain ⟨s2, hs2⟩ : ∃ s2, strOf q = s2 := ⟨_, rfl⟩
      rw [hs1] at hz1 HL
      rw [hs2] at hz2 HL
      rw [hs1, hs2]
      have g1 : (s1.size : Int) ≤ 4096 := by omega
      have g2 : (s2.size : Int) ≤ 4096 := by omega
      have HB : Hid (betterM (some r) (some q) = (decide (r.length < q.length) || (r.length == q.length && lessI r q))) := rfl
      have HZ1 := hide1 hz1
      have HZ2 := hide1 hz2
      clear hs1 hs2 hx ht hz1 hz2 hrl hql
      go_enter Tryd.func93, Tryd.ntmps93
      by_cases he : (s1.size : Int) = (s2.size : Int)
      · have hb : ((s1.size : Int) != (s2.size : Int)) = false := by simp [he]
        have HE : Hid (r.length = q.length) := by have := HZ1.out; have := HZ2.out; show _ = _; omega
        clear he
        go_wp2
        go_ret
        refine ⟨?_, HK.out _ _ _ _⟩
        rw [HB.out, HE.out, ← HL.out]
        simp
      · have hb : ((s1.size : Int) != (s2.size : Int)) = true := by simpa using he
        have HE : Hid ((decide (r.length < q.length) || (r.length == q.length && lessI r q)) = decide (s1.size < s2.size)) := by
          have e1 := HZ1.out
          have e2 := HZ2.out
          have e3 : (r.length == q.length) = false := by simp; omega
          show _ = _
          rw [e3, Bool.false_and, Bool.or_false, decide_eq_decide]
          omega
        clear he
        go_wp2
        go_ret
        refine ⟨?_, HK.out _ _ _ _⟩
        rw [HB.out, HE.out]
        rfl

end Ex
end Go.Proofs.YtooelfjceehmmaaDoor
