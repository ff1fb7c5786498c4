import Derived.Test.YtooelfjceehmmaaDoorMSpNh
namespace Go.Proofs.YtooelfjceehmmaaDoor
open Go.RowKit
attribute [local go_sem] Oper.semAt_some
namespace Ex

/-- The rest of a row of symbols. -/
theorem right_rest {w : World} {a : Option Addr} {n cap : Nat} {row : List SymM} (h : RightAt w (.slice a n cap) row) (i : Nat) (hi : i ≤ n) :
    ∃ b c, (∀ w', (Instr.sliceAt 38 (.slice a n cap) (some (.int .i64 (i : Int))) none none).run Tryd.prog w' = .ok (.slice b (n - i) c) w') ∧ RightAt w (.slice b (n - i) c) (row.drop i) := by
  have ht : Tryd.prog.underlying 38 = some (.slice (Tryd.prog.elem 38)) := by kernel_rfl
  have hsz : ∀ w', (sizeOf (Tryd.prog.elem 38)).run Tryd.prog w' = .ok 2 w' := fun w' => by kernel_rfl
  obtain ⟨a', cap', he, hc, hn, h4⟩ := h
  simp only [Value.slice.injEq] at he
  obtain ⟨rfl, hlen, rfl⟩ := he
  refine ⟨if cap = i then a else a.map (·.add (i * 2)), cap - i, fun w' => ?_, ?_⟩
  · rw [run_sliceAt_slice (P := Tryd.prog) (h := ht), run_slice_l (P := Tryd.prog) (ht := ht) (h0 := by omega) (h1 := by omega), hsz w']
    simp [Result.andThen, sliced]
  · refine ⟨_, _, by rw [List.length_drop, ← hlen], by rw [List.length_drop]; omega, by rw [List.length_drop]; omega, ?_⟩
    rcases h4 with h4 | ⟨c, o, h5, h6, h7⟩
    · left
      rw [h4, List.drop_nil]
    · by_cases e : row.drop i = []
      · exact .inl e
      · have hlt : i < row.length := by
          rcases Nat.lt_or_ge i row.length with h | h
          · exact h
          · exact absurd (List.drop_of_length_le h) e
        refine .inr ⟨c, o + i * 2, ?_, h6, fun j x hx => ?_⟩
        · rw [if_neg (by omega), h5]
          show some ((⟨c, o, none⟩ : Addr).add (i * 2)) = _
          rw [Addr.add_mid]
        · rw [List.getElem?_drop] at hx
          obtain ⟨cs, g1, g2, g3⟩ := h7 (i + j) x hx
          refine ⟨cs, g1, fun k u hu => ?_, g3⟩
          have := g2 k u hu
          rw [show o + (i + j) * 2 + k = o + i * 2 + j * 2 + k by omega] at this
          exact this
def FoD (j m : Nat) (i : Nat × Nat) : Prop := i.1 < j ∨ (i.1 = j ∧ i.2 < m)
abbrev FoS (nl st E : Nat) (F : Nat → Nat) (ps : List ProdM) (G0 G : Nat → Nat) (D : Nat × Nat → Prop) : Prop := LfStep (FoB nl st) (FoJ ps) (FoG nl (fun n => E.testBit n = true) (famS F) ps) (famS G0) (famS G) D
theorem put_or (F : Nat → Nat) (l H : Nat) : putV F l (F l ||| H) = orV F l H := funext (fun i => by
  unfold putV orV
  by_cases e : i = l
  · rw [if_pos e, if_pos e, e]
  · rw [if_neg e, if_neg e])
section
variable {nl st E : Nat} {F : Nat → Nat} {ps : List ProdM} {G0 G : Nat → Nat} {j m : Nat} {p : ProdM}
theorem fo_put (h : FoS nl st E F ps G0 G (FoD j m)) (hp : ps[j]? = some p) {y : SymM} (hy : p.2[m]? = some y) (h3 : y.1 = 3) {l q H : Nat} (hl : p.1.toNat = l) (hq : y.2.toNat = q) (hH : headsM nl E F (G l) (p.2.drop (m + 1)) 0 = H) : FoS nl st E F ps G0 (putV G q (G q ||| H)) (FoD j (m + 1)) := by
  unfold FoS at h ⊢
  rw [put_or]
  have hb : ∀ t, H.testBit t = true ↔ HeadS nl (fun n => E.testBit n = true) (famS F) (fun t => famS G (p.1.toNat, t)) (p.2.drop (m + 1)) t := fun t => by
    rw [← hH, heads_bit, hl]
    constructor
    · rintro (h | h)
      · simp at h
      · exact h
    · exact fun h => .inr h
  refine LfStep.put (fo_up _ _ _ _) h (i := (j, m)) ⟨p, hp, (List.getElem?_eq_some_iff.1 hy).1⟩ (fun k hk => ?_) (fun x hx => (fam_set G q H x).2 (.inl hx)) (fun x hx => ?_) (fun x hx => ?_)
  · obtain ⟨k1, k2⟩ := k
    rcases hk with hk | ⟨hk1, hk2⟩
    · exact .inl (.inl hk)
    · simp only at hk1 hk2
      by_cases e : k2 = m
      · right
        rw [hk1, e]
      · exact .inl (.inr ⟨hk1, by simp only; omega⟩)
  · rcases (fam_set G q H x).1 hx with hx | ⟨h1, h2⟩
    · exact .inl hx
    · exact .inr ⟨p, y, hp, hy, h3, h1.trans hq.symm, (hb x.2).1 h2⟩
  · obtain ⟨p', y', h1, h2, h4, h5, h6⟩ := hx
    have h1 : ps[j]? = some p' := h1
    have h2 : p'.2[m]? = some y' := h2
    rw [hp] at h1
    injection h1 with h1
    subst h1
    rw [hy] at h2
    injection h2 with h2
    subst h2
    exact (fam_set G q H x).2 (.inr ⟨h5.trans hq, (hb x.2).2 h6⟩)
theorem fo_skip (h : FoS nl st E F ps G0 G (FoD j m)) (hp : ps[j]? = some p) {y : SymM} (hy : p.2[m]? = some y) (h3 : y.1 ≠ 3) : FoS nl st E F ps G0 G (FoD j (m + 1)) := by
  refine LfStep.skip h (fun k hk => ?_)
  obtain ⟨k1, k2⟩ := k
  rcases hk with hk | ⟨hk1, hk2⟩
  · exact .inl (.inl hk)
  · simp only at hk1 hk2
    by_cases e : k2 = m
    · right
      rintro x ⟨p', y', h1, h2, h4, h5, h6⟩
      have h1 : ps[k1]? = some p' := h1
      have h2 : p'.2[k2]? = some y' := h2
      rw [hk1, hp] at h1
      injection h1 with h1
      subst h1
      rw [e, hy] at h2
      injection h2 with h2
      subst h2
      exact h3 h4
    · exact .inl (.inr ⟨hk1, by simp only; omega⟩)
theorem fo_next (h : FoS nl st E F ps G0 G (FoD j m)) (hp : ps[j]? = some p) (hm : p.2.length ≤ m) : FoS nl st E F ps G0 G (fun i => i.1 < j + 1) := by
  refine LfStep.skip h (fun k hk => ?_)
  obtain ⟨k1, k2⟩ := k
  have hk : k1 < j + 1 := hk
  by_cases e : k1 = j
  · by_cases e2 : k2 < m
    · exact .inl (.inr ⟨e, e2⟩)
    · right
      rintro x ⟨p', y', h1, h2, _⟩
      have h1 : ps[k1]? = some p' := h1
      have h2 : p'.2[k2]? = some y' := h2
      rw [e, hp] at h1
      injection h1 with h1
      subst h1
      have := (List.getElem?_eq_some_iff.1 h2).1
      omega
  · exact .inl (.inl (by simp only; omega))
theorem fo_into (h : FoS nl st E F ps G0 G (fun i => i.1 < j)) : FoS nl st E F ps G0 G (FoD j 0) := LfStep.skip h (fun k hk => by
  rcases hk with hk | ⟨_, hk⟩
  · exact .inl hk
  · omega)
end
def Bd (G0 G : Nat → Nat) : Prop := (∀ n, G n < 2 ^ 128) ∧ ∀ n, 128 ≤ n → G n = G0 n
theorem Bd.put {G0 G : Nat → Nat} (h : Bd G0 G) {l A : Nat} (hl : l < 128) (hA : A < 2 ^ 128) : Bd G0 (putV G l A) := by
  refine ⟨fun n => ?_, fun n hn => ?_⟩
  · unfold putV
    split
    · exact hA
    · exact h.1 n
  · unfold putV
    rw [if_neg (by omega)]
    exact h.2 n hn
def FoI (nl st E : Nat) (F : Nat → Nat) (ps : List ProdM) (G0 : Nat → Nat) (fb : Nat) (W : World) (vi : Value) (wr : World) : Prop := ∃ (j : Nat) (G : Nat → Nat), vi = .int .i64 (j : Int) ∧ j ≤ ps.length ∧ Hid (FoS nl st E F ps G0 G (fun i => i.1 < j)) ∧ Hid (Bd G0 G) ∧ Hid (FaB wr fb G) ∧ Hid (KeptBut fb W wr)
def FoK (nl st E : Nat) (F : Nat → Nat) (ps : List ProdM) (G0 : Nat → Nat) (j : Nat) (row : List SymM) (fb : Nat) (W : World) (vi : Value) (wr : World) : Prop := ∃ (m : Nat) (G : Nat → Nat), vi = .int .i64 (m : Int) ∧ m ≤ row.length ∧ Hid (FoS nl st E F ps G0 G (FoD j m)) ∧ Hid (Bd G0 G) ∧ Hid (FaB wr fb G) ∧ Hid (KeptBut fb W wr)
def FsR (nl st E : Nat) (F : Nat → Nat) (ps : List ProdM) (G0 : Nat → Nat) (fb : Nat) (w : World) (e : Ending) (w' : World) : Prop := ∃ G : Nat → Nat, FoS nl st E F ps G0 G (fun i => i.1 < ps.length) ∧ Bd G0 G ∧ e = .returned (.bool (!eqV G G0)) ∧ FaB w' fb G ∧ KeptBut fb w w'
theorem FaB.lt {w : World} {b : Nat} {F : Nat → Nat} (h : FaB w b F) : b < w.heap.size := Blk.lt h
theorem FaB.keep {w w' : World} {b : Nat} {F : Nat → Nat} (h : FaB w b F) (hk : Kept w w') : FaB w' b F := Blk.keep h hk
theorem FaB.but {w w' : World} {b c : Nat} {F : Nat → Nat} (h : FaB w b F) (hk : KeptBut c w w') (hc : b ≠ c) : FaB w' b F := Blk.but h hk hc
set_option linter.unusedSimpArgs false in
set_option maxRecDepth 100000 in
set_option maxHeartbeats 8000000 in
theorem fStep_is (fb qb gb E nl st : Nat) (F G0 : Nat → Nat) (ps : List ProdM) (al : Option Addr) (cl : Nat) (x1 x2 : Value) (hx2 : ∃ sv : Int, x2 = .int .i64 sv) (ap : Option Addr) (np cp : Nat) (w0 w : World) (hnl : nl < 128) (hF : ∀ n, F n < 2 ^ 128) (hG0 : ∀ n, G0 n < 2 ^ 128) (hps : ps.length = np) (hA : FaB w fb G0) (hq : OneB w qb (.pointer (some ⟨gb, 0, none⟩)) 114) (hg : GrB w gb (.slice al nl cl) x1 x2 (.slice ap np cp) E F) (hp : ProdsAt w0 (.slice ap np cp) ps) (hk : Kept w0 w) (hd : w0.heap.size ≤ fb) (hqd : qb ≠ fb) (hgd : gb ≠ fb) (hok : ∀ p ∈ ps, ProdGood p) :
    Calls Tryd.prog 79 #[.pointer (some ⟨fb, 0, none⟩), .pointer (some ⟨qb, 0, none⟩)] w (FsR nl st E F ps G0 fb w) := by
  obtain ⟨sv, rfl⟩ := hx2
  have HPS := hide1 hps
  have HNL := hide1 hnl
  have HF := hide1 hF
  have HG0 := hide1 hG0
  have HP := hide1 hp
  have HK0 := hide1 hk
  have HD := hide1 hd
  have HGD := hide1 hgd
  have HQD := hide1 hqd
  have HOK := hide1 hok
  have HA := hide1 hA
  have HG := hide1 hg
  have HQ := hide1 hq
  obtain ⟨_, _, e1, hc, hn⟩ := hp.len
  simp only [Value.slice.injEq] at e1
  obtain ⟨rfl, en, rfl⟩ := e1
  clear en
  rw [hps] at hc hn
  have gn : (np : Int) ≤ 17592186044416 := by omega
  clear hps hnl hA hg hq hp hk hd hgd hqd hok hF hG0
  go_enter Tryd.func79, Tryd.ntmps79
  go_upto_region 1 with fail
  have HOD : Hid (w.heap.size ≠ fb) := Nat.ne_of_gt HA.out.lt
  go_upto_region 2 with (first
    | (refine wpList_load_row rfl 79 _ rfl fb rfl 79 (famL G0).toArray (0, 0) _ (by exact HA.out) Tryd.underlying79 rfl (fam_sizeA G0) ?_)
    | (refine wpList_store_row rfl 79 _ _ rfl w.heap.size (famL G0).toArray rfl rfl 79 (famL fun _ => 0).toArray (by exact fam_zero w) (fam_sizeA G0) (by rw [List.size_toArray, List.size_toArray, famL_len, famL_len]) (famL_all G0) ?_))
  have HO2 : Hid (FaB ((w.alloc (.cells Tryd.zeroCells79 79)).setRow w.heap.size (famL G0).toArray) w.heap.size G0) := setRow_heap _ _ _ _ _ _ (fam_zero w)
  have HK2 : Hid (Kept w ((w.alloc (.cells Tryd.zeroCells79 79)).setRow w.heap.size (famL G0).toArray)) := KeptBut.up ((Kept.refl w).alloc _ _) (Nat.le_refl _) (setRow_butS _ _ _)
  obtain ⟨W, hW⟩ : ∃ W, (w.alloc (.cells Tryd.zeroCells79 79)).setRow w.heap.size (famL G0).toArray = W := ⟨_, rfl⟩
  rw [hW] at HO2 HK2 ⊢
  clear hW
  obtain ⟨ob, hob⟩ : ∃ ob, w.heap.size = ob := ⟨_, rfl⟩
  rw [hob] at HO2 HOD ⊢
  clear hob
  have HA2 := hide1 (HA.out.keep HK2.out)
  have HG2 := hide1 (HG.out.keep HK2.out)
  have HQ2 := hide1 (HQ.out.keep HK2.out)
  obtain ⟨s0, s1, s2, s3⟩ := HG2.out.spec
  have q0 := HQ2.out.cell
  go_wp2_with fail
  clear s0 s1 s2 s3 q0
  go_loopw [18] (FoI nl st E F ps G0 fb W) (fun i _ => np - (intOf i).toNat)
  case atStart => exact ⟨0, G0, rfl, Nat.zero_le _, LfStep.start _ (fun _ h => by omega), ⟨HG0.out, fun _ _ => rfl⟩, HA2, but_refl fb W⟩
  case round =>
    obtain ⟨j, G1, rfl, hj, HM1, HV1, HS1, HKr⟩ := hrel
    rw [HPS.out] at hj
    by_cases hlt : (j : Int) < (np : Int)
    · obtain ⟨p, hp⟩ : ∃ p, ps[j]? = some p := ⟨_, List.getElem?_eq_getElem (by have := HPS.out; omega)⟩
      have HKw := hide1 (KeptBut.up (gtrans HK0.out HK2.out) HD.out HKr.out)
      obtain ⟨cb, o2, cs, ea, hcb, hlen, hcell, v', hcs, hrt⟩ := SliceOf.el HP.out hp
      subst ea hcs
      have k0 : wr.cell? ⟨cb, o2 + j * 2, none⟩ = some (.int .i64 p.1) := grown_cell HKw.out (hcell 0 _ rfl)
      have k1 := grown_cell HKw.out (hcell 1 _ rfl)
      have gjc : (j : Int) < (cp : Int) := by omega
      have HOKp := hide1 (HOK.out p (List.mem_of_getElem? hp))
      have HPJ := hide1 hp
      obtain ⟨ar, cr, rfl, hcr, hnr⟩ := hrt.len
      obtain ⟨nr, hnr2⟩ : ∃ nr, p.2.length = nr := ⟨_, rfl⟩
      rw [hnr2] at hrt hcr hnr k1
      have gnr : (nr : Int) ≤ 17592186044416 := by omega
      have HNR := hide1 hnr2
      have HRT := hide1 hrt
      obtain ⟨l, hl⟩ : ∃ l : Nat, p.1 = (l : Int) := ⟨p.1.toNat, by have := HOKp.out.1.1; omega⟩
      have HLE : Hid (p.1.toNat = l) := by show _ = _; omega
      have HL : Hid (l < 128) := by have := HOKp.out.1; show _ < _; omega
      rw [hl] at k0
      clear hp hcell hrt hnr2 hl
      have HPB := hide1 (PBox.new wr (.int .i64 (l : Int)) (.slice ar nr cr))
      have HK4 : Hid (Kept wr (wr.alloc (.cells #[.int .i64 (l : Int), .slice ar nr cr] 40))) := (Kept.refl wr).alloc _ _
      have HPBD : Hid (wr.heap.size ≠ fb) := Nat.ne_of_gt HS1.out.lt
      go_upto_region 5 with fail
      clear k0 k1
      obtain ⟨W4, hW4⟩ : ∃ W4, wr.alloc (.cells #[.int .i64 (l : Int), .slice ar nr cr] 40) = W4 := ⟨_, rfl⟩
      rw [hW4] at HPB HK4 ⊢
      clear hW4
      obtain ⟨pb, hpb⟩ : ∃ pb, wr.heap.size = pb := ⟨_, rfl⟩
      rw [hpb] at HPB HPBD ⊢
      clear hpb
      have HS4 := hide1 (HS1.out.keep HK4.out)
      have HG4 := hide1 ((HG2.out.but HKr.out HGD.out).keep HK4.out)
      have HQ4 := hide1 ((HQ2.out.but HKr.out HQD.out).keep HK4.out)
      have HK4w := hide1 (gtrans HKw.out HK4.out)
      have gl8 : (l : Int) < 128 := by have := HL.out; omega
      have p1 := HPB.out.cells.2
      go_wp2_with fail
      clear p1
      go_loopw [25] (FoK nl st E F ps G0 j p.2 fb W4) (fun i _ => nr - (intOf i).toNat)
      case atStart => exact ⟨0, G1, rfl, Nat.zero_le _, fo_into HM1.out, HV1, HS4, but_refl fb W4⟩
      case round =>
        obtain ⟨m, G, rfl, hm, HM, HVV, HSr, HKm⟩ := hrel
        rw [HNR.out] at hm
        have HKmw := hide1 (KeptBut.up HK4w.out HD.out HKm.out)
        have HPBm := hide1 (HPB.out.but HKm.out HPBD.out)
        have HGm := hide1 (HG4.out.but HKm.out HGD.out)
        have HQm := hide1 (HQ4.out.but HKm.out HQD.out)
        by_cases hmt : (m : Int) < (nr : Int)
        · obtain ⟨x, hx⟩ : ∃ x, p.2[m]? = some x := ⟨_, List.getElem?_eq_getElem (by have := HNR.out; omega)⟩
          obtain ⟨cr2, or2, cs2, ea2, hcb2, hlen2, hcell2, hcs2⟩ := SliceOf.el HRT.out hx
          have hcs2 : cs2 = [.int .i64 x.1, .int .i64 x.2] := hcs2
          subst ea2 hcs2
          have k0 : wr.cell? ⟨cr2, or2 + m * 2, none⟩ = some (.int .i64 x.1) := grown_cell HKmw.out (hcell2 0 _ rfl)
          have k1 := grown_cell HKmw.out (hcell2 1 _ rfl)
          have gmc : (m : Int) < (cr : Int) := by omega
          have HXJ := hide1 hx
          have HOX := hide1 (HOKp.out.2 x (List.mem_of_getElem? hx))
          obtain ⟨kd, sn⟩ := x
          clear hx hcell2
          have HX := hide1 (XBox.new wr kd sn)
          have HK5 : Hid (Kept wr (wr.alloc (.cells #[.int .i64 kd, .int .i64 sn] 58))) := (Kept.refl wr).alloc _ _
          have HXD : Hid (wr.heap.size ≠ fb) := Nat.ne_of_gt HSr.out.lt
          go_upto_region 8 with fail
          clear k0 k1
          obtain ⟨W5, hW5⟩ : ∃ W5, wr.alloc (.cells #[.int .i64 kd, .int .i64 sn] 58) = W5 := ⟨_, rfl⟩
          rw [hW5] at HX HK5 ⊢
          clear hW5
          obtain ⟨xb, hxb⟩ : ∃ xb, wr.heap.size = xb := ⟨_, rfl⟩
          rw [hxb] at HX HXD ⊢
          clear hxb
          have t0 := HX.out.cells.1
          by_cases h3 : kd = 3
          · subst h3
            obtain ⟨hn0, hn1⟩ := HOX.out.1 rfl
            obtain ⟨q, rfl⟩ : ∃ q : Nat, sn = (q : Int) := ⟨sn.toNat, by simp only at hn0; omega⟩
            have HQ8 : Hid (q < 128) := by simp only at hn1; show _ < _; omega
            have gq8 : (q : Int) < 128 := by have := HQ8.out; omega
            clear hn0 hn1
            have HS5 := hide1 (HSr.out.keep HK5.out)
            have HG5 := hide1 (HGm.out.keep HK5.out)
            have HQ5 := hide1 (HQm.out.keep HK5.out)
            have HPB5 := hide1 (HPBm.out.keep HK5.out)
            have HKw5 := hide1 (gtrans HKmw.out HK5.out)
            obtain ⟨sb, sc, hsl, hrr⟩ := right_rest HRT.out (m + 1) (by omega)
            obtain ⟨rn, hrn⟩ : ∃ rn, nr - (m + 1) = rn := ⟨_, rfl⟩
            rw [hrn] at hsl hrr
            have HRL : Hid ((p.2.drop (m + 1)).length = rn) := by show _ = _; rw [List.length_drop, HNR.out]; exact hrn
            have HRR := hide1 hrr
            have HSL : Hid (∀ w', (Instr.sliceAt 38 (.slice (some ⟨cr2, or2, none⟩) nr cr) (some (.int .i64 ((m : Int) + 1))) none none).run Tryd.prog w' = .ok (.slice sb rn sc) w') := hsl
            have HOR : Hid (∀ x ∈ p.2.drop (m + 1), SymGood x) := fun x hx => HOKp.out.2 x (List.mem_of_mem_drop hx)
            clear hsl hrr hrn
            obtain ⟨z, hz⟩ : ∃ z, G q = z := ⟨_, rfl⟩
            obtain ⟨y, hy⟩ : ∃ y, G l = y := ⟨_, rfl⟩
            obtain ⟨H, hH⟩ : ∃ H, headsM nl E F y (p.2.drop (m + 1)) 0 = H := ⟨_, rfl⟩
            have HH := hide1 hH
            have HZ := hide1 hz
            have HY := hide1 hy
            have HMP := hide1 (fo_put HM.out HPJ.out HXJ.out rfl HLE.out (show ((3, (q : Int)) : SymM).2.toNat = q from rfl) (H := H) (by rw [hy, hH]))
            have HMV : Hid (Bd G0 (putV G q (z ||| H))) := HVV.out.put HQ8.out (Nat.or_lt_two_pow (hz ▸ HVV.out.1 q) (hH ▸ heads_lt HNL.out HF.out (hy ▸ HVV.out.1 l) _ 0 (by decide) (fun x hx h3 => term_lt HNL.out (HOR.out x hx) h3)))
            rw [hz] at HMP
            have HWR : Hid (IntKind.i64.wrap ((m : Int) + 1) = (m : Int) + 1) := by show _ = _; rw [IntKind.wrap_i64]; omega
            clear hH hz hy
            go_upto_region 9 with fail
            clear t0
            refine wp_region_held_drew (S := fun X => KeptBut fb W5 X) (by kernel_rfl) (but_refl fb W5) (fun hHeld => ?_)
            refine wpAnyH_take (i := 0) (v := .pointer (some ⟨fb, 0, none⟩)) rfl (by kernel_rfl) (by kernel_rfl) (by kernel_rfl) (fun _ _ _ h => h) (Or.inl ⟨by rfl, fun w' hSw => ?_⟩) (by with_reducible assumption) ?_
            · clear hSw
              go_simp
            try simp only [Act.put, List.setIfInBounds_toArray, List.set_cons_zero, List.set_cons_succ]
            refine wpAnyH_take (i := 1) (v := .pointer (some ⟨xb, 1, none⟩)) rfl (by kernel_rfl) (by kernel_rfl) (by kernel_rfl) (fun _ _ _ h => h) (Or.inl ⟨by rfl, fun w' hSw => ?_⟩) (by with_reducible assumption) ?_
            · clear hSw
              go_simp
            try simp only [Act.put, List.setIfInBounds_toArray, List.set_cons_zero, List.set_cons_succ]
            refine wpAnyH_take (i := 2) (v := .int .i64 (q : Int)) rfl (by kernel_rfl) (by kernel_rfl) (by kernel_rfl) (fun _ _ _ h => h) (Or.inl ⟨by rfl, fun w' hSw => ?_⟩) (by with_reducible assumption) ?_
            · have s0 := (XBox.but HX.out hSw HXD.out).cells.2
              clear hSw
              go_simp
            try simp only [Act.put, List.setIfInBounds_toArray, List.set_cons_zero, List.set_cons_succ]
            refine wpAnyH_take (i := 3) (v := .pointer (some ⟨fb, 0, none⟩)) rfl (by kernel_rfl) (by kernel_rfl) (by kernel_rfl) (fun _ _ _ h => h) (Or.inl ⟨by rfl, fun w' hSw => ?_⟩) (by with_reducible assumption) ?_
            · clear hSw
              go_simp
            try simp only [Act.put, List.setIfInBounds_toArray, List.set_cons_zero, List.set_cons_succ]
            refine wpAnyH_take (i := 4) (v := .pointer (some ⟨xb, 1, none⟩)) rfl (by kernel_rfl) (by kernel_rfl) (by kernel_rfl) (fun _ _ _ h => h) (Or.inl ⟨by rfl, fun w' hSw => ?_⟩) (by with_reducible assumption) ?_
            · clear hSw
              go_simp
            try simp only [Act.put, List.setIfInBounds_toArray, List.set_cons_zero, List.set_cons_succ]
            refine wpAnyH_take (i := 5) (v := .int .i64 (q : Int)) rfl (by kernel_rfl) (by kernel_rfl) (by kernel_rfl) (fun _ _ _ h => h) (Or.inl ⟨by rfl, fun w' hSw => ?_⟩) (by with_reducible assumption) ?_
            · have s0 := (XBox.but HX.out hSw HXD.out).cells.2
              clear hSw
              go_simp
            try simp only [Act.put, List.setIfInBounds_toArray, List.set_cons_zero, List.set_cons_succ]
            refine wpAnyH_take (i := 6) (v := .pointer (some ⟨fb, 0, none⟩)) rfl (by kernel_rfl) (by kernel_rfl) (by kernel_rfl) (fun _ _ _ h => h) (Or.inl ⟨by rfl, fun w' hSw => ?_⟩) (by with_reducible assumption) ?_
            · clear hSw
              go_simp
            try simp only [Act.put, List.setIfInBounds_toArray, List.set_cons_zero, List.set_cons_succ]
            refine wpAnyH_take (i := 7) (v := .pointer (some ⟨fb, q * 2, none⟩)) rfl (by kernel_rfl) (by kernel_rfl) (by kernel_rfl) (fun _ _ _ h => h) (Or.inl ⟨by rfl, fun w' hSw => ?_⟩) (by with_reducible assumption) ?_
            · clear hSw
              go_simp
            try simp only [Act.put, List.setIfInBounds_toArray, List.set_cons_zero, List.set_cons_succ]
            refine wpAnyH_take (i := 9) (v := .pointer (some ⟨gb, 0, none⟩)) rfl (by kernel_rfl) (by kernel_rfl) (by kernel_rfl) (fun _ _ _ h => h) (Or.inl ⟨by rfl, fun w' hSw => ?_⟩) (by with_reducible assumption) ?_
            · have s0 := (HQ5.out.but hSw HQD.out).cell
              clear hSw
              go_simp
            try simp only [Act.put, List.setIfInBounds_toArray, List.set_cons_zero, List.set_cons_succ]
            refine wpAnyH_take (i := 10) (v := .pointer (some ⟨pb, 1, none⟩)) rfl (by kernel_rfl) (by kernel_rfl) (by kernel_rfl) (fun _ _ _ h => h) (Or.inl ⟨by rfl, fun w' hSw => ?_⟩) (by with_reducible assumption) ?_
            · clear hSw
              go_simp
            try simp only [Act.put, List.setIfInBounds_toArray, List.set_cons_zero, List.set_cons_succ]
            refine wpAnyH_take (i := 11) (v := .slice (some ⟨cr2, or2, none⟩) nr cr) rfl (by kernel_rfl) (by kernel_rfl) (by kernel_rfl) (fun _ _ _ h => h) (Or.inl ⟨by rfl, fun w' hSw => ?_⟩) (by with_reducible assumption) ?_
            · have s0 := (PBox.but HPB5.out hSw HPBD.out).cells.2
              clear hSw
              go_simp
            try simp only [Act.put, List.setIfInBounds_toArray, List.set_cons_zero, List.set_cons_succ]
            refine wpAnyH_take (i := 12) (v := .int .i64 (m : Int)) rfl (by kernel_rfl) (by kernel_rfl) (by kernel_rfl) (fun _ _ _ h => h) (Or.inl ⟨by rfl, fun w' hSw => ?_⟩) (by with_reducible assumption) ?_
            · clear hSw
              go_simp
            try simp only [Act.put, List.setIfInBounds_toArray, List.set_cons_zero, List.set_cons_succ]
            refine wpAnyH_take (i := 13) (v := .int .i64 ((m : Int) + 1)) rfl (by kernel_rfl) (by kernel_rfl) (by kernel_rfl) (fun _ _ _ h => h) (Or.inl ⟨by rfl, fun w' hSw => ?_⟩) (by with_reducible assumption) ?_
            · have s0 := HWR.out
              clear hSw
              go_simp
            try simp only [Act.put, List.setIfInBounds_toArray, List.set_cons_zero, List.set_cons_succ]
            refine wpAnyH_take (i := 14) (v := .slice sb rn sc) rfl (by kernel_rfl) (by kernel_rfl) (by kernel_rfl) (fun _ _ _ h => h) (Or.inl ⟨by rfl, fun w' hSw => ?_⟩) (by with_reducible assumption) ?_
            · have s0 := HSL.out
              clear hSw
              go_simp
            try simp only [Act.put, List.setIfInBounds_toArray, List.set_cons_zero, List.set_cons_succ]
            refine wpAnyH_take (i := 15) (v := .pointer (some ⟨fb, 0, none⟩)) rfl (by kernel_rfl) (by kernel_rfl) (by kernel_rfl) (fun _ _ _ h => h) (Or.inl ⟨by rfl, fun w' hSw => ?_⟩) (by with_reducible assumption) ?_
            · clear hSw
              go_simp
            try simp only [Act.put, List.setIfInBounds_toArray, List.set_cons_zero, List.set_cons_succ]
            refine wpAnyH_take (i := 16) (v := .pointer (some ⟨pb, 0, none⟩)) rfl (by kernel_rfl) (by kernel_rfl) (by kernel_rfl) (fun _ _ _ h => h) (Or.inl ⟨by rfl, fun w' hSw => ?_⟩) (by with_reducible assumption) ?_
            · clear hSw
              go_simp
            try simp only [Act.put, List.setIfInBounds_toArray, List.set_cons_zero, List.set_cons_succ]
            refine wpAnyH_take (i := 17) (v := .int .i64 (l : Int)) rfl (by kernel_rfl) (by kernel_rfl) (by kernel_rfl) (fun _ _ _ h => h) (Or.inl ⟨by rfl, fun w' hSw => ?_⟩) (by with_reducible assumption) ?_
            · have s0 := (PBox.but HPB5.out hSw HPBD.out).cells.1
              clear hSw
              go_simp
            try simp only [Act.put, List.setIfInBounds_toArray, List.set_cons_zero, List.set_cons_succ]
            refine wpAnyH_take (i := 18) (v := .pointer (some ⟨fb, 0, none⟩)) rfl (by kernel_rfl) (by kernel_rfl) (by kernel_rfl) (fun _ _ _ h => h) (Or.inl ⟨by rfl, fun w' hSw => ?_⟩) (by with_reducible assumption) ?_
            · clear hSw
              go_simp
            try simp only [Act.put, List.setIfInBounds_toArray, List.set_cons_zero, List.set_cons_succ]
            refine wpAnyH_take (i := 19) (v := .pointer (some ⟨fb, l * 2, none⟩)) rfl (by kernel_rfl) (by kernel_rfl) (by kernel_rfl) (fun _ _ _ h => h) (Or.inl ⟨by rfl, fun w' hSw => ?_⟩) (by with_reducible assumption) ?_
            · clear hSw
              go_simp
            try simp only [Act.put, List.setIfInBounds_toArray, List.set_cons_zero, List.set_cons_succ]
            refine wpAnyH_take (i := 23) (v := .pointer (some ⟨fb, 0, none⟩)) rfl (by kernel_rfl) (by kernel_rfl) (by kernel_rfl) (fun _ _ _ h => h) (Or.inl ⟨by rfl, fun w' hSw => ?_⟩) (by with_reducible assumption) ?_
            · clear hSw
              go_simp
            try simp only [Act.put, List.setIfInBounds_toArray, List.set_cons_zero, List.set_cons_succ]
            refine wpAnyH_ready (rs := [8, 20]) (by kernel_rfl) (by simp) ?_
            refine AllReadyH.cons (i := 8) rfl (fun K hK => ?_) (AllReadyH.cons (i := 20) rfl (fun K hK => ?_) AllReadyH.nil)
            · have a0 : W5.drew.cell? ⟨fb, q * 2, none⟩ = some (.int .u64 (wordAt z 0 : Nat)) := HZ.out ▸ (FaB.cells HS5.out HQ8.out).1
              have a1 : W5.drew.cell? ⟨fb, q * 2 + 1, none⟩ = some (.int .u64 (wordAt z 1 : Nat)) := HZ.out ▸ (FaB.cells HS5.out HQ8.out).2
              go_simp
              clear a0 a1
              refine hK.out _ _ hHeld (fun hHeld2 => ?_)
              clear hK K hHeld
              have hHeld := hHeld2
              clear hHeld2
              try simp only [Act.put, List.setIfInBounds_toArray, List.set_cons_zero, List.set_cons_succ]
              refine wpAnyH_ready (rs := [20]) (by kernel_rfl) (by simp) ?_
              refine AllReadyH.cons (i := 20) rfl (fun K hK => ?_) AllReadyH.nil
              have a0 : W5.drew.cell? ⟨fb, l * 2, none⟩ = some (.int .u64 (wordAt y 0 : Nat)) := HY.out ▸ (FaB.cells HS5.out HL.out).1
              have a1 : W5.drew.cell? ⟨fb, l * 2 + 1, none⟩ = some (.int .u64 (wordAt y 1 : Nat)) := HY.out ▸ (FaB.cells HS5.out HL.out).2
              go_simp
              clear a0 a1
              refine hK.out _ _ hHeld (fun hHeld2 => ?_)
              clear hK K hHeld
              have hHeld := hHeld2
              clear hHeld2
              try simp only [Act.put, List.setIfInBounds_toArray, List.set_cons_zero, List.set_cons_succ]
              refine wpAnyH_ready (rs := [21]) (by kernel_rfl) (by simp) ?_
              refine AllReadyH.cons (i := 21) rfl (fun K hK => ?_) AllReadyH.nil
              go_simp
              go_wp2_with (go_at_call 31; refine (gHeads_is gb E y nl F al cl x1 _ sv sb rn sc (p.2.drop (m + 1)) _ HNL.out HRL.out (HRR.out.keep (gtrans HKw5.out (drew_kept W5))) (HG5.out.keep (drew_kept W5)) HOR.out).mono ?_; rintro e w6 ⟨rfl, hk6⟩; rw [HH.out, setS_eq]; have HK6 := hide1 (gtrans (drew_kept W5) hk6); clear hk6)
              refine hK.out _ _ (HK6.out.but fb) (fun hHeld2 => ?_)
              clear hK K hHeld
              have hHeld := hHeld2
              clear hHeld2
              try simp only [Act.put, List.setIfInBounds_toArray, List.set_cons_zero, List.set_cons_succ]
              refine wpAnyH_ready (rs := [22]) (by kernel_rfl) (by simp) ?_
              refine AllReadyH.cons (i := 22) rfl (fun K hK => ?_) AllReadyH.nil
              go_simp
              go_wp2_with (go_at_call 61; refine (sOr_is z H _).mono ?_; rintro e w7 ⟨rfl, hk7⟩; rw [setS_eq]; have HK7 := hide1 (gtrans HK6.out hk7); clear hk7)
              refine hK.out _ _ (HK7.out.but fb) (fun hHeld2 => ?_)
              clear hK K hHeld
              have hHeld := hHeld2
              clear hHeld2
              try simp only [Act.put, List.setIfInBounds_toArray, List.set_cons_zero, List.set_cons_succ]
              refine wpAnyH_take (i := 24) (v := .pointer (some ⟨fb, q * 2, none⟩)) rfl (by kernel_rfl) (by kernel_rfl) (by kernel_rfl) (fun _ _ _ h => h) (Or.inl ⟨by rfl, fun w' hSw => ?_⟩) (by with_reducible assumption) ?_
              · clear hSw
                go_simp
              try simp only [Act.put, List.setIfInBounds_toArray, List.set_cons_zero, List.set_cons_succ]
              refine wpAnyH_ready (rs := [25]) (by kernel_rfl) (by simp) ?_
              refine AllReadyH.cons (i := 25) rfl (fun K hK => ?_) AllReadyH.nil
              have HS7 := hide1 (HS5.out.keep HK7.out)
              obtain ⟨a0, a1⟩ := HS7.out.cells HQ8.out
              have z0 := Blk.free HS7.out (q * 2)
              have z1 := Blk.free HS7.out (q * 2 + 1)
              go_simp
              clear a0 a1 z0 z1
              have HS8 := hide1 (HS7.out.set q (z ||| H))
              have HK8 : Hid (KeptBut fb W5 ((w7.setCell ⟨fb, q * 2, none⟩ (.int .u64 (wordAt (z ||| H) 0 : Nat))).setCell ⟨fb, q * 2 + 1, none⟩ (.int .u64 (wordAt (z ||| H) 1 : Nat)))) := but_set (but_set (HK7.out.but fb) _ _) _ _
              refine hK.out _ _ HK8.out (fun hHeld2 => ?_)
              clear hK K hHeld
              have hHeld := hHeld2
              clear hHeld2
              try simp only [Act.put, List.setIfInBounds_toArray, List.set_cons_zero, List.set_cons_succ]
              refine wpAnyH_done (by kernel_rfl) ?_ _
              clear hHeld
              go_wp2_with fail
              go_roundw
              case rel => exact ⟨m + 1, _, by go_num, by rw [HNR.out]; omega, HMP, HMV, HS8, HKm.out.trans ((HK5.out.but fb).trans HK8.out)⟩
              case measure => simp [intOf]; omega
            · have a0 : W5.drew.cell? ⟨fb, l * 2, none⟩ = some (.int .u64 (wordAt y 0 : Nat)) := HY.out ▸ (FaB.cells HS5.out HL.out).1
              have a1 : W5.drew.cell? ⟨fb, l * 2 + 1, none⟩ = some (.int .u64 (wordAt y 1 : Nat)) := HY.out ▸ (FaB.cells HS5.out HL.out).2
              go_simp
              clear a0 a1
              refine hK.out _ _ hHeld (fun hHeld2 => ?_)
              clear hK K hHeld
              have hHeld := hHeld2
              clear hHeld2
              try simp only [Act.put, List.setIfInBounds_toArray, List.set_cons_zero, List.set_cons_succ]
              refine wpAnyH_ready (rs := [8, 21]) (by kernel_rfl) (by simp) ?_
              refine AllReadyH.cons (i := 8) rfl (fun K hK => ?_) (AllReadyH.cons (i := 21) rfl (fun K hK => ?_) AllReadyH.nil)
              · have a0 : W5.drew.cell? ⟨fb, q * 2, none⟩ = some (.int .u64 (wordAt z 0 : Nat)) := HZ.out ▸ (FaB.cells HS5.out HQ8.out).1
                have a1 : W5.drew.cell? ⟨fb, q * 2 + 1, none⟩ = some (.int .u64 (wordAt z 1 : Nat)) := HZ.out ▸ (FaB.cells HS5.out HQ8.out).2
                go_simp
                clear a0 a1
                refine hK.out _ _ hHeld (fun hHeld2 => ?_)
                clear hK K hHeld
                have hHeld := hHeld2
                clear hHeld2
                try simp only [Act.put, List.setIfInBounds_toArray, List.set_cons_zero, List.set_cons_succ]
                refine wpAnyH_ready (rs := [21]) (by kernel_rfl) (by simp) ?_
                refine AllReadyH.cons (i := 21) rfl (fun K hK => ?_) AllReadyH.nil
                go_simp
                go_wp2_with (go_at_call 31; refine (gHeads_is gb E y nl F al cl x1 _ sv sb rn sc (p.2.drop (m + 1)) _ HNL.out HRL.out (HRR.out.keep (gtrans HKw5.out (drew_kept W5))) (HG5.out.keep (drew_kept W5)) HOR.out).mono ?_; rintro e w6 ⟨rfl, hk6⟩; rw [HH.out, setS_eq]; have HK6 := hide1 (gtrans (drew_kept W5) hk6); clear hk6)
                refine hK.out _ _ (HK6.out.but fb) (fun hHeld2 => ?_)
                clear hK K hHeld
                have hHeld := hHeld2
                clear hHeld2
                try simp only [Act.put, List.setIfInBounds_toArray, List.set_cons_zero, List.set_cons_succ]
                refine wpAnyH_ready (rs := [22]) (by kernel_rfl) (by simp) ?_
                refine AllReadyH.cons (i := 22) rfl (fun K hK => ?_) AllReadyH.nil
                go_simp
                go_wp2_with (go_at_call 61; refine (sOr_is z H _).mono ?_; rintro e w7 ⟨rfl, hk7⟩; rw [setS_eq]; have HK7 := hide1 (gtrans HK6.out hk7); clear hk7)
                refine hK.out _ _ (HK7.out.but fb) (fun hHeld2 => ?_)
                clear hK K hHeld
                have hHeld := hHeld2
                clear hHeld2
                try simp only [Act.put, List.setIfInBounds_toArray, List.set_cons_zero, List.set_cons_succ]
                refine wpAnyH_take (i := 24) (v := .pointer (some ⟨fb, q * 2, none⟩)) rfl (by kernel_rfl) (by kernel_rfl) (by kernel_rfl) (fun _ _ _ h => h) (Or.inl ⟨by rfl, fun w' hSw => ?_⟩) (by with_reducible assumption) ?_
                · clear hSw
                  go_simp
                try simp only [Act.put, List.setIfInBounds_toArray, List.set_cons_zero, List.set_cons_succ]
                refine wpAnyH_ready (rs := [25]) (by kernel_rfl) (by simp) ?_
                refine AllReadyH.cons (i := 25) rfl (fun K hK => ?_) AllReadyH.nil
                have HS7 := hide1 (HS5.out.keep HK7.out)
                obtain ⟨a0, a1⟩ := HS7.out.cells HQ8.out
                have z0 := Blk.free HS7.out (q * 2)
                have z1 := Blk.free HS7.out (q * 2 + 1)
                go_simp
                clear a0 a1 z0 z1
                have HS8 := hide1 (HS7.out.set q (z ||| H))
                have HK8 : Hid (KeptBut fb W5 ((w7.setCell ⟨fb, q * 2, none⟩ (.int .u64 (wordAt (z ||| H) 0 : Nat))).setCell ⟨fb, q * 2 + 1, none⟩ (.int .u64 (wordAt (z ||| H) 1 : Nat)))) := but_set (but_set (HK7.out.but fb) _ _) _ _
                refine hK.out _ _ HK8.out (fun hHeld2 => ?_)
                clear hK K hHeld
                have hHeld := hHeld2
                clear hHeld2
                try simp only [Act.put, List.setIfInBounds_toArray, List.set_cons_zero, List.set_cons_succ]
                refine wpAnyH_done (by kernel_rfl) ?_ _
                clear hHeld
                go_wp2_with fail
                go_roundw
                case rel => exact ⟨m + 1, _, by go_num, by rw [HNR.out]; omega, HMP, HMV, HS8, HKm.out.trans ((HK5.out.but fb).trans HK8.out)⟩
                case measure => simp [intOf]; omega
              · go_simp
                go_wp2_with (go_at_call 31; refine (gHeads_is gb E y nl F al cl x1 _ sv sb rn sc (p.2.drop (m + 1)) _ HNL.out HRL.out (HRR.out.keep (gtrans HKw5.out (drew_kept W5))) (HG5.out.keep (drew_kept W5)) HOR.out).mono ?_; rintro e w6 ⟨rfl, hk6⟩; rw [HH.out, setS_eq]; have HK6 := hide1 (gtrans (drew_kept W5) hk6); clear hk6)
                refine hK.out _ _ (HK6.out.but fb) (fun hHeld2 => ?_)
                clear hK K hHeld
                have hHeld := hHeld2
                clear hHeld2
                try simp only [Act.put, List.setIfInBounds_toArray, List.set_cons_zero, List.set_cons_succ]
                refine wpAnyH_ready (rs := [8]) (by kernel_rfl) (by simp) ?_
                refine AllReadyH.cons (i := 8) rfl (fun K hK => ?_) AllReadyH.nil
                have a0 : w6.cell? ⟨fb, q * 2, none⟩ = some (.int .u64 (wordAt z 0 : Nat)) := HZ.out ▸ (FaB.cells (HS5.out.keep HK6.out) HQ8.out).1
                have a1 : w6.cell? ⟨fb, q * 2 + 1, none⟩ = some (.int .u64 (wordAt z 1 : Nat)) := HZ.out ▸ (FaB.cells (HS5.out.keep HK6.out) HQ8.out).2
                go_simp
                clear a0 a1
                refine hK.out _ _ hHeld (fun hHeld2 => ?_)
                clear hK K hHeld
                have hHeld := hHeld2
                clear hHeld2
                try simp only [Act.put, List.setIfInBounds_toArray, List.set_cons_zero, List.set_cons_succ]
                refine wpAnyH_ready (rs := [22]) (by kernel_rfl) (by simp) ?_
                refine AllReadyH.cons (i := 22) rfl (fun K hK => ?_) AllReadyH.nil
                go_simp
                go_wp2_with (go_at_call 61; refine (sOr_is z H _).mono ?_; rintro e w7 ⟨rfl, hk7⟩; rw [setS_eq]; have HK7 := hide1 (gtrans HK6.out hk7); clear hk7)
                refine hK.out _ _ (HK7.out.but fb) (fun hHeld2 => ?_)
                clear hK K hHeld
                have hHeld := hHeld2
                clear hHeld2
                try simp only [Act.put, List.setIfInBounds_toArray, List.set_cons_zero, List.set_cons_succ]
                refine wpAnyH_take (i := 24) (v := .pointer (some ⟨fb, q * 2, none⟩)) rfl (by kernel_rfl) (by kernel_rfl) (by kernel_rfl) (fun _ _ _ h => h) (Or.inl ⟨by rfl, fun w' hSw => ?_⟩) (by with_reducible assumption) ?_
                · clear hSw
                  go_simp
                try simp only [Act.put, List.setIfInBounds_toArray, List.set_cons_zero, List.set_cons_succ]
                refine wpAnyH_ready (rs := [25]) (by kernel_rfl) (by simp) ?_
                refine AllReadyH.cons (i := 25) rfl (fun K hK => ?_) AllReadyH.nil
                have HS7 := hide1 (HS5.out.keep HK7.out)
                obtain ⟨a0, a1⟩ := HS7.out.cells HQ8.out
                have z0 := Blk.free HS7.out (q * 2)
                have z1 := Blk.free HS7.out (q * 2 + 1)
                go_simp
                clear a0 a1 z0 z1
                have HS8 := hide1 (HS7.out.set q (z ||| H))
                have HK8 : Hid (KeptBut fb W5 ((w7.setCell ⟨fb, q * 2, none⟩ (.int .u64 (wordAt (z ||| H) 0 : Nat))).setCell ⟨fb, q * 2 + 1, none⟩ (.int .u64 (wordAt (z ||| H) 1 : Nat)))) := but_set (but_set (HK7.out.but fb) _ _) _ _
                refine hK.out _ _ HK8.out (fun hHeld2 => ?_)
                clear hK K hHeld
                have hHeld := hHeld2
                clear hHeld2
                try simp only [Act.put, List.setIfInBounds_toArray, List.set_cons_zero, List.set_cons_succ]
                refine wpAnyH_done (by kernel_rfl) ?_ _
                clear hHeld
                go_wp2_with fail
                go_roundw
                case rel => exact ⟨m + 1, _, by go_num, by rw [HNR.out]; omega, HMP, HMV, HS8, HKm.out.trans ((HK5.out.but fb).trans HK8.out)⟩
                case measure => simp [intOf]; omega
          · have hb3 : (kd == 3) = false := by simpa using h3
            have HMP := hide1 (fo_skip HM.out HPJ.out HXJ.out h3)
            clear h3
            go_wp2_with fail
            go_roundw
            case rel => exact ⟨m + 1, G, by go_num, by rw [HNR.out]; omega, HMP, HVV, HSr.out.keep HK5.out, HKm.out.trans (HK5.out.but fb)⟩
            case measure => simp [intOf]; omega
        · have HMP := hide1 (fo_next HM.out HPJ.out (by have := HNR.out; omega))
          go_wp2_with fail
          go_roundw
          case rel => exact ⟨j + 1, G, by go_num, by rw [HPS.out]; omega, HMP, HVV, HSr, HKr.out.trans ((HK4.out.but fb).trans HKm.out)⟩
          case measure => simp [intOf]; omega
    · have hjn : j = ps.length := by have := HPS.out; omega
      have HM2 : Hid (FoS nl st E F ps G0 G1 (fun i => i.1 < ps.length)) := by
        have := HM1.out
        rw [hjn] at this
        exact this
      have HSO : Hid (FaB wr ob G0) := HO2.out.but HKr.out HOD.out
      have hne := neq_fam HV1.out.1 HG0.out
      have HNE := hide1 hne
      clear hne
      go_upto_region 12 with fail
      refine wp_region_held_drew (S := fun X => Kept wr X) (by kernel_rfl) (Kept.refl wr) (fun hHeld => ?_)
      refine wpAnyH_take (i := 0) (v := .pointer (some ⟨fb, 0, none⟩)) rfl (by kernel_rfl) (by kernel_rfl) (by kernel_rfl) (fun _ _ _ h => h) (Or.inl ⟨by rfl, fun w' hSw => ?_⟩) (by with_reducible assumption) ?_
      · clear hSw
        go_simp
      try simp only [Act.put, List.setIfInBounds_toArray, List.set_cons_zero, List.set_cons_succ]
      refine wpAnyH_take (i := 1) (v := .pointer (some ⟨fb, 0, none⟩)) rfl (by kernel_rfl) (by kernel_rfl) (by kernel_rfl) (fun _ _ _ h => h) (Or.inl ⟨by rfl, fun w' hSw => ?_⟩) (by with_reducible assumption) ?_
      · clear hSw
        go_simp
      try simp only [Act.put, List.setIfInBounds_toArray, List.set_cons_zero, List.set_cons_succ]
      refine wpAnyH_take (i := 2) (v := .agg (famL G1).toArray) rfl (by kernel_rfl) (by kernel_rfl) (by kernel_rfl) (fun _ _ _ h => h) (Or.inl ⟨by rfl, fun w' hSw => ?_⟩) (by with_reducible assumption) ?_
      · have s0 := run_loadVar_row (P := Tryd.prog) w' fb 79 79 (famL G1).toArray (0, 0) _ (Blk.keep HS1.out hSw) Tryd.underlying79 rfl (fam_sizeA G1)
        exact exec_load_at _ _ 79 _ ⟨fb, 0, none⟩ (.agg (famL G1).toArray) w' rfl rfl s0
      try simp only [Act.put, List.setIfInBounds_toArray, List.set_cons_zero, List.set_cons_succ]
      refine wpAnyH_take (i := 3) (v := .agg (famL G0).toArray) rfl (by kernel_rfl) (by kernel_rfl) (by kernel_rfl) (fun _ _ _ h => h) (Or.inl ⟨by rfl, fun w' hSw => ?_⟩) (by with_reducible assumption) ?_
      · have s0 := run_loadVar_row (P := Tryd.prog) w' ob 79 79 (famL G0).toArray (0, 0) _ (Blk.keep HSO.out hSw) Tryd.underlying79 rfl (fam_sizeA G0)
        exact exec_load_at _ _ 79 _ ⟨ob, 0, none⟩ (.agg (famL G0).toArray) w' rfl rfl s0
      try simp only [Act.put, List.setIfInBounds_toArray, List.set_cons_zero, List.set_cons_succ]
      refine wpAnyH_take (i := 4) (v := .bool (!eqV G1 G0)) rfl (by kernel_rfl) (by kernel_rfl) (by kernel_rfl) (fun _ _ _ h => h) (Or.inl ⟨by rfl, fun w' hSw => ?_⟩) (by with_reducible assumption) ?_
      · have s0 := HNE.out
        clear hSw
        go_simp
      try simp only [Act.put, List.setIfInBounds_toArray, List.set_cons_zero, List.set_cons_succ]
      refine wpAnyH_take (i := 5) (v := .bool (!eqV G1 G0)) rfl (by kernel_rfl) (by kernel_rfl) (by kernel_rfl) (fun _ _ _ h => h) (Or.inl ⟨by rfl, fun w' hSw => ?_⟩) (by with_reducible assumption) ?_
      · clear hSw
        go_simp
      try simp only [Act.put, List.setIfInBounds_toArray, List.set_cons_zero, List.set_cons_succ]
      refine wpAnyH_done (by kernel_rfl) ?_ _
      clear hHeld
      go_wp2_with fail
      go_ret
      exact ⟨G1, HM2.out, HV1.out, rfl, HS1.out, ((HK2.out.but fb).trans HKr.out).trans ((drew_kept _).but fb)⟩

end Ex
end Go.Proofs.YtooelfjceehmmaaDoor
