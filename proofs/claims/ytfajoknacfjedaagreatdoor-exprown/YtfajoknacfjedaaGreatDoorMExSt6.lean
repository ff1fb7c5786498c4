import Derived.Test.YtfajoknacfjedaaGreatDoorMExSt5
namespace Go.Proofs.YtfajoknacfjedaaGreatDoor
open Go.RowKit
attribute [local go_sem] Oper.semAt_some
namespace Ex

/-- The set behind the first p bits of word k (x) and a byte. -/
def wordTo (ts : List (Int × Int × Nat)) (fs : List (Nat × Nat)) (c : Int) (k x : Nat) : Nat → Nat
  | 0 => 0
  | p + 1 => wordTo ts fs c k x p ||| if x.testBit p ∧ k * 64 + p ≠ 4096 then takeM ts fs (k * 64 + p) c else 0
def stepsL (ts : List (Int × Int × Nat)) (fs : List (Nat × Nat)) (c : Int) (l : List (Nat × Nat)) : Nat := l.foldl (fun B d => B ||| wordTo ts fs c d.1 d.2 64) 0
/-- The set behind a set and a byte. -/
def stepM (ts : List (Int × Int × Nat)) (fs : List (Nat × Nat)) (A : Nat) (c : Int) : Nat := stepsL ts fs c (chunkL A)
theorem stepsL_snoc (ts : List (Int × Int × Nat)) (fs : List (Nat × Nat)) (c : Int) (l : List (Nat × Nat)) (d : Nat × Nat) : stepsL ts fs c (l ++ [d]) = stepsL ts fs c l ||| wordTo ts fs c d.1 d.2 64 := by
  unfold stepsL
  rw [List.foldl_append]
  rfl
theorem takeM_top (ts : List (Int × Int × Nat)) (fs : List (Nat × Nat)) (i : Nat) (c : Int) : takeM ts fs i c < top := by
  unfold takeM
  split
  · split
    · exact top_zero
    · exact reachM_top _ _
  · exact top_zero
theorem wordTo_top (ts : List (Int × Int × Nat)) (fs : List (Nat × Nat)) (c : Int) (k x : Nat) : ∀ p, wordTo ts fs c k x p < top
  | 0 => top_zero
  | p + 1 => by
    rw [wordTo]
    refine top_or (wordTo_top ts fs c k x p) ?_
    split
    · exact takeM_top _ _ _ _
    · exact top_zero
theorem stepsL_top (ts : List (Int × Int × Nat)) (fs : List (Nat × Nat)) (c : Int) (l : List (Nat × Nat)) : stepsL ts fs c l < top := by
  have h : ∀ (l : List (Nat × Nat)) (B : Nat), B < top → l.foldl (fun B d => B ||| wordTo ts fs c d.1 d.2 64) B < top := by
    intro l
    induction l with
    | nil => intro B h; exact h
    | cons d l ih => intro B h; exact ih _ (top_or h (wordTo_top _ _ _ _ _ _))
  exact h l 0 top_zero
/-- Over bits that are not set nothing is added. -/
theorem wordTo_skip {ts : List (Int × Int × Nat)} {fs : List (Nat × Nat)} {c : Int} {k x p : Nat} : ∀ (t : Nat), p ≤ t → (∀ j, p ≤ j → j < t → x.testBit j = false) → wordTo ts fs c k x t = wordTo ts fs c k x p
  | 0, h, _ => by rw [show p = 0 by omega]
  | t + 1, h, hz => by
    by_cases hp : p = t + 1
    · rw [hp]
    · rw [wordTo, hz t (by omega) (by omega), wordTo_skip t (by omega) (fun j h1 h2 => hz j h1 (by omega))]
      simp
/-- The next bit of a word. -/
theorem word_next {ts : List (Int × Int × Nat)} {fs : List (Nat × Nat)} {c : Int} {k x x1 p t : Nat} (hb : ∀ q, x1.testBit q = (x.testBit q && decide (p ≤ q))) (tset : x1.testBit t = true) (tlow : ∀ j, j < t → x1.testBit j = false) (tbit : ∀ j, (x1 &&& (x1 - 1)).testBit j = (x1.testBit j && decide (j ≠ t))) :
    (∀ q, (x1 &&& (x1 - 1)).testBit q = (x.testBit q && decide (t + 1 ≤ q))) ∧ x.testBit t = true ∧ wordTo ts fs c k x (t + 1) = wordTo ts fs c k x p ||| if k * 64 + t ≠ 4096 then takeM ts fs (k * 64 + t) c else 0 := by
  have hset := tset
  rw [hb] at hset
  simp only [Bool.and_eq_true, decide_eq_true_eq] at hset
  refine ⟨fun q => ?_, hset.1, ?_⟩
  · rw [tbit, hb]
    by_cases h1 : q < t
    · have := tlow q h1
      rw [hb] at this
      rw [this]
      simp [show ¬ t + 1 ≤ q by omega]
    · by_cases h2 : q = t
      · subst h2; simp
      · simp [h2, show p ≤ q by omega, show t + 1 ≤ q by omega]
  · rw [wordTo, wordTo_skip t hset.2 (fun j h1 h2 => by have := tlow j h2; rw [hb] at this; simpa [h1] using this)]
    simp [hset.1]
theorem and_low {x : Nat} (hx : x < 18446744073709551616) (hne : x ≠ 0) : bits BinOp.and IntKind.u64 (x : Int) (IntKind.u64.wrap ((x : Int) - 1)) = ((x &&& (x - 1) : Nat) : Int) := by
  have h : IntKind.u64.wrap ((x : Int) - 1) = ((x - 1 : Nat) : Int) := by rw [IntKind.wrap_u64]; omega
  rw [h, bits_and_u64_nat _ _ hx (by omega)]
theorem tz_at (x t : Nat) (hx : x < 18446744073709551616) (hx0 : x ≠ 0) (ht : Lib.ctz 64 x = t) (w : World) (hT : TabAt w) :
    Calls Tryz.prog 86 #[.int .u64 x] w fun e w' => e = .returned (.int .i64 (t : Int)) ∧ ∃ m, w' = w.drewN m := by
  subst ht
  exact tz_is x hx hx0 w hT
/-- The places of a set are takers, or the end. -/
def PlacesOk (A n : Nat) : Prop := ∀ p, A.testBit p = true → p = 4096 ∨ p < n
theorem take_at (S : Nat → Prop) (nb tb fb first : Nat) (ts : List (Int × Int × Nat)) (fs : List (Nat × Nat)) (i : Nat) (z c : Int) (w : World) (hz : z = (i : Int)) (h : NetRun S w nb tb fb first ts fs) (hi : i < ts.length) :
    Calls Tryz.prog 88 #[.pointer (some ⟨nb, 0, none⟩), .int .i64 z, .int .u8 c] w fun e w' => Hid (∃ v, e = .returned v ∧ ChunksAt (SNew S w w') w' v (chunkL (takeM ts fs i c)) ∧ NetRun (SNew S w w') w' nb tb fb first ts fs) ∧ KeptBut tb w w' := by
  subst hz
  exact take_net S nb tb fb first ts fs i c w h hi
theorem but_cell {w w' : World} {b d o : Nat} {v : Value} (hk : KeptBut b w w') (hc : w.cell? ⟨d, o, none⟩ = some v) (hd : d ≠ b) : w'.cell? ⟨d, o, none⟩ = some v := (World.cell?_of_block (w := w) (a := ⟨d, o, none⟩) (hk.2.2.2.2 d (World.block_lt_of_cell? w _ hc) hd)).trans hc
theorem chunk_mem {A k x : Nat} (h : (k, x) ∈ chunkL A) : x = wordAt A k := by
  unfold chunkL chunkTo at h
  obtain ⟨i, _, e⟩ := List.mem_map.1 h
  simp only [Prod.mk.injEq] at e
  rw [← e.1, ← e.2]
theorem setRow_but (w : World) (b : Nat) (cs : Array Value) : KeptBut b w (w.setRow b cs) := ⟨rfl, rfl, rfl, by simp, fun k _ hn => setRow_other w b k cs hn⟩
/-- The loop over the chunks. -/
def StepR (S : Nat → Prop) (w : World) (nb tb fb first : Nat) (ts : List (Int × Int × Nat)) (fs : List (Nat × Nat)) (B : Nat) (vc : Value) (l : List (Nat × Nat)) (wr : World) : Prop :=
  SetAt wr (w.heap.size + 2) B ∧ SetAt wr (w.heap.size + 1) 0 ∧ NetRun (fun d => S d ∨ (w.heap.size + 3 ≤ d ∧ d < wr.heap.size)) wr nb tb fb first ts fs ∧ TabAt wr ∧ KeptBut tb w wr ∧ ChunksAt (fun d => w.heap.size + 3 ≤ d ∧ d < wr.heap.size) wr vc l

/-- What does not change while a step is made. -/
structure StepF (S : Nat → Prop) (w : World) (nb tb fb : Nat) (fs : List (Nat × Nat)) : Prop where
  hnb : nb < w.heap.size
  htb : tb < w.heap.size
  hfb : fs = [] ∨ fb < w.heap.size
  htab : 1 < w.heap.size
  htbt : tb ≠ 1
  hS : ∀ d, S d → d < w.heap.size
  hSt : ¬ S tb
section
variable {S : Nat → Prop} {w : World} {nb tb fb first : Nat} {ts : List (Int × Int × Nat)} {fs : List (Nat × Nat)} {B : Nat} {vc : Value} {l : List (Nat × Nat)} {w1 w2 : World}
theorem StepR.took (h : StepR S w nb tb fb first ts fs B vc l w1) (hF : StepF S w nb tb fb fs) (hn : NetRun (SNew (fun d => S d ∨ (w.heap.size + 3 ≤ d ∧ d < w1.heap.size)) w1 w2) w2 nb tb fb first ts fs) (hk : KeptBut tb w1 w2) : StepR S w nb tb fb first ts fs B vc l w2 := by
  obtain ⟨h1, h2, h3, h4, h5, h6⟩ := h
  have hl1 := h1.lt
  have htb := hF.htb
  have hsz := hk.2.2.2.1
  refine ⟨h1.but hk (by omega), h2.but hk (by omega), hn.wide (fun d hd => ?_) (fun e => ?_) (fun d hd => ?_), h4.but hk hF.htbt, h5.trans hk, h6.mono (hk.holds (by omega)) (fun d hd => ⟨hd.1, by omega⟩)⟩
  · rcases hd with (hd | hd) | hd
    · exact .inl hd
    · exact .inr ⟨hd.1, by omega⟩
    · exact .inr ⟨by omega, hd.2⟩
  · rcases e with e | e
    · exact hF.hSt e
    · omega
  · rcases hd with hd | hd
    · have := hF.hS d hd; omega
    · exact hd.2
theorem StepR.joined {B' : Nat} (h : StepR S w nb tb fb first ts fs B vc l w1) (hF : StepF S w nb tb fb fs) (hk : KeptBut (w.heap.size + 2) w1 w2) (hB : SetAt w2 (w.heap.size + 2) B') : StepR S w nb tb fb first ts fs B' vc l w2 := by
  obtain ⟨h1, h2, h3, h4, h5, h6⟩ := h
  have hl1 := h1.lt
  have htb := hF.htb
  have hnb := hF.hnb
  have htab := hF.htab
  have hsz := hk.2.2.2.1
  have hns : ¬ (S (w.heap.size + 2) ∨ (w.heap.size + 3 ≤ w.heap.size + 2 ∧ w.heap.size + 2 < w1.heap.size)) := fun e => by
    rcases e with e | e
    · have := hF.hS _ e; omega
    · omega
  refine ⟨hB, h2.but hk (by omega), (h3.but hk (by omega) (by omega) (hF.hfb.imp id (fun e => by omega)) hns).wide (fun d hd => hd.imp id (fun e => ⟨e.1, by omega⟩)) (fun e => ?_) (fun d hd => ?_), h4.but hk (by omega), ?_, h6.mono (hk.holds (by omega)) (fun d hd => ⟨hd.1, by omega⟩)⟩
  · rcases e with e | e
    · exact hF.hSt e
    · omega
  · rcases hd with hd | hd
    · have := hF.hS d hd; omega
    · exact hd.2
  · exact ⟨hk.1.trans h5.1, hk.2.1.trans h5.2.1, hk.2.2.1.trans h5.2.2.1, Nat.le_trans h5.2.2.2.1 hsz, fun k hlt hne => (hk.2.2.2.2 k (Nat.lt_of_lt_of_le hlt h5.2.2.2.1) (by omega)).trans (h5.2.2.2.2 k hlt hne)⟩
theorem StepR.keep (h : StepR S w nb tb fb first ts fs B vc l w1) (hF : StepF S w nb tb fb fs) (hk : Kept w1 w2) : StepR S w nb tb fb first ts fs B vc l w2 :=
  h.joined hF (hk.but _) (h.1.keep hk)
end
set_option linter.unusedSimpArgs false in
set_option maxRecDepth 100000 in
set_option maxHeartbeats 4000000 in
theorem step_is (S : Nat → Prop) (nb tb fb first : Nat) (ts : List (Int × Int × Nat)) (fs : List (Nat × Nat)) (A : Nat) (c : Int) (w : World) (h : NetRun S w nb tb fb first ts fs) (hT : TabAt w) (htg : tb ≠ 1) (hA : PlacesOk A ts.length) :
    Calls Tryz.prog 67 #[.pointer (some ⟨nb, 0, none⟩), .agg (setV A), .int .u8 c] w fun e w' => e = .returned (.agg (setV (stepM ts fs A c))) ∧ NetRun (SNew S w w') w' nb tb fb first ts fs ∧ KeptBut tb w w' := by
  have HN := hide1 h
  have HT := hide1 hT
  have HA := hide1 hA
  obtain ⟨l, hl⟩ : ∃ l, chunkL A = l := ⟨_, rfl⟩
  have HL := hide1 hl
  have HOK : Hid (ChunkOk l ∧ l.length ≤ 65) := by rw [← hl]; exact ⟨chunkTo_ok A 65 (Nat.le_refl _), chunkTo_len A 65⟩
  have HSF : Hid (StepF S w nb tb fb fs) := ⟨World.block_lt_of_cell? w _ h.first, h.tlt, h.forks.lt, hT.lt, htg, h.apart.2.2, h.apart.2.1⟩
  have htb : tb < w.heap.size := h.tlt
  clear h hT hA hl
  go_enter Tryz.func67, Tryz.ntmps67
  go_wp2_with (first
    | (refine wpList_load_row rfl 98 _ rfl w.heap.size rfl 98 (setV A) (0, 0) _ (by exact SetAt.keep (SetAt.new w A) (((Kept.refl _).alloc _ _).alloc _ _)) Tryz.underlying98 rfl (set_size A) ?_)
    | (go_at_call 85; refine (chunks_is A _).mono ?_; rintro e w7 ⟨hv, hk7⟩; obtain ⟨v7, rfl, ho7⟩ := hv.out; rw [HL.out] at ho7; have HO7 := hide1 ho7; have HK7 := hide1 hk7; obtain ⟨a7, n7, e7⟩ := ho7.form; subst e7; clear hv ho7 hk7))
  rw [zero_set] at HK7 HO7
  go_loopw [15] (fun vi wr => ∃ j : Nat, vi = .int .i64 (j : Int) ∧ j ≤ l.length ∧ Hid (StepR S w nb tb fb first ts fs (stepsL ts fs c (l.take j)) (.slice a7 l.length n7) l wr)) (fun vi _ => l.length - (intOf vi).toNat)
  case atStart =>
    have hk3 : Kept w (((w.alloc (.cells (setV A) 98)).alloc (.cells (setV 0) 98)).alloc (.cells (setV 0) 98)) := (((Kept.refl w).alloc _ _).alloc _ _).alloc _ _
    have hk := gtrans hk3 HK7.out
    have hs3 : (((w.alloc (.cells (setV A) 98)).alloc (.cells (setV 0) 98)).alloc (.cells (setV 0) 98)).heap.size = w.heap.size + 3 := by simp
    have hs7 := HK7.out.size
    have ho := HO7.out.at HOK.out.2
    rw [hs3] at hs7 ho
    refine ⟨0, rfl, Nat.zero_le _, ?_, ?_, (HN.out.keep hk).wide (fun d hd => .inl hd) (fun e => ?_) (fun d hd => ?_), HT.out.keep hk, hk.but tb, ho⟩
    · refine SetAt.keep ?_ HK7.out
      have := SetAt.new ((w.alloc (.cells (setV A) 98)).alloc (.cells (setV 0) 98)) 0
      simpa [stepsL] using this
    · refine SetAt.keep ?_ HK7.out
      have := SetAt.new (w.alloc (.cells (setV A) 98)) 0
      have := this.keep ((Kept.refl _).alloc (setV 0) 98)
      simpa using this
    · rcases e with e | e
      · exact HSF.out.hSt e
      · omega
    · rcases hd with hd | hd
      · have := HSF.out.hS d hd; omega
      · exact hd.2
  case round =>
    obtain ⟨j, rfl, hj, hR⟩ := hrel
    by_cases hlt : (j : Int) < (l.length : Int)
    · obtain ⟨⟨k, x⟩, hq⟩ : ∃ d, l[j]? = some d := ⟨_, List.getElem?_eq_getElem (by omega)⟩
      obtain ⟨a2, cap2, e2, gc, _, h4⟩ := hR.out.2.2.2.2.2
      simp only [Value.slice.injEq] at e2
      obtain ⟨rfl, _, rfl⟩ := e2
      rcases h4 with h4 | ⟨g, rfl, hSg, h7⟩
      · rw [h4] at hq; simp at hq
      · obtain ⟨g0, g1⟩ := h7 j _ hq
        dsimp only at g0 g1
        have gc2 : (l.length : Int) ≤ (n7 : Int) := by omega
        have HQ := hide1 hq
        obtain ⟨hk65, hx⟩ := HOK.out.1 (k, x) (List.mem_of_getElem? hq)
        clear h7 hq
        go_wp2_with fail
        obtain ⟨B, hB⟩ : ∃ B, stepsL ts fs c (l.take j) = B := ⟨_, rfl⟩
        rw [hB] at hR
        have HB := hide1 hB
        clear hB
        obtain ⟨wo, hwo⟩ : ∃ wo, wo = wr := ⟨_, rfl⟩
        subst hwo
        have HXA : Hid (∀ q, x.testBit q = true → k * 64 + q = 4096 ∨ k * 64 + q < ts.length) := by
          intro q hq2
          have hm : x = wordAt A k := chunk_mem (by rw [HL.out]; exact List.mem_of_getElem? HQ.out)
          rw [hm, word_bit] at hq2
          simp only [Bool.and_eq_true] at hq2
          rw [Nat.mul_comm]
          exact HA.out _ hq2.2
        go_loopw [10] (fun vx wi => ∃ (p x1 : Nat), vx = .int .u64 (x1 : Int) ∧ x1 < 18446744073709551616 ∧ p ≤ 64 ∧ Hid (StepR S w nb tb fb first ts fs (B ||| wordTo ts fs c k x p) (.slice (some ⟨g, 0, none⟩) l.length n7) l wi) ∧ Hid (wi.cell? ⟨wo.heap.size, 0, none⟩ = some (.int .i64 (k : Int))) ∧ Hid (∀ q, x1.testBit q = (x.testBit q && decide (p ≤ q)))) (fun vx _ => (intOf vx).toNat)
        case atStart =>
          refine ⟨0, x, rfl, hx, by omega, ?_, ?_, fun q => by simp⟩
          · show StepR S w nb tb fb first ts fs (B ||| 0) _ l _
            rw [Nat.or_zero]
            exact hR.out.keep HSF.out ((Kept.refl _).alloc _ _)
          · exact cell_of_row _ wo.heap.size 0 _ _ (0, 0) (heap_alloc_new wo _)
        case round =>
          obtain ⟨p, x1, rfl, hx1, hp, hR1, hc1, hbits⟩ := hrel
          by_cases h0 : (x1 : Int) = 0
          · have HE : Hid (wordTo ts fs c k x 64 = wordTo ts fs c k x p) := wordTo_skip 64 hp (fun q h1 _ => by
              have h2 := hbits.out q
              rw [show x1 = 0 by omega] at h2
              simpa [h1] using h2.symm)
            have HE2 : Hid (stepsL ts fs c (l.take (j + 1)) = B ||| wordTo ts fs c k x p) := by
              show _ = _
              rw [List.take_add_one, HQ.out]
              refine (stepsL_snoc ts fs c _ _).trans ?_
              rw [HB.out, HE.out]
            go_wp2_with fail
            go_roundw
            case rel => exact ⟨j + 1, by go_num, by omega, by rw [HE2.out]; exact hR1.out⟩
            case measure => simp [intOf]; omega
          · have hne : x1 ≠ 0 := by omega
            obtain ⟨t64, tset, tlow, tsub, tbit⟩ := ctz_bit hx1 hne
            obtain ⟨t, htt⟩ : ∃ t, Lib.ctz 64 x1 = t := ⟨_, rfl⟩
            rw [htt] at t64 tset tlow tsub tbit
            have HTT := hide1 htt
            have gt : (t : Int) < 64 := by omega
            have gk : (k : Int) < 65 := by have := hk65; omega
            have HX1 := hide1 hx1
            have HNE := hide1 hne
            have HWN := hide1 (word_next (ts := ts) (fs := fs) (c := c) (k := k) hbits.out tset tlow tbit)
            have HLT : Hid (x1 &&& (x1 - 1) < x1) := by show _ < _; rw [tsub]; have := Nat.pow_pos (n := t) (show 0 < 2 by decide); omega
            have c0 := hc1.out
            clear htt tset tlow tsub tbit hx1 hne
            by_cases hend : (k : Int) * 64 + (t : Int) = 4096
            · go_wp2_with (first | go_quiet ((go_at_call 86; exact Calls.quiet_of (tz_at x1 t HX1.out HNE.out HTT.out _ (by exact hR1.out.2.2.2.1)))))
              go_roundw
              case rel =>
                rw [and_low HX1.out HNE.out]
                refine ⟨t + 1, x1 &&& (x1 - 1), rfl, Nat.lt_trans HLT.out HX1.out, by omega, ?_, ?_, HWN.out.1⟩
                · rw [HWN.out.2.2, if_neg (by omega), Nat.or_zero]
                  exact hR1.out.keep HSF.out (drewN_kept _ _)
                · exact c0
              case measure => rw [and_low HX1.out HNE.out]; simp only [intOf]; have := HLT.out; omega
            · have hil : k * 64 + t < ts.length := by
                rcases HXA.out t HWN.out.2.1 with e | e
                · omega
                · exact e
              have hs1 := hR1.out.1.lt
              have hso := hR.out.1.lt
              have HR1 := hide1 (hR1.out)
              clear hR1 hc1 hbits
              go_wp2_with (first
                | go_quiet ((go_at_call 86; exact Calls.quiet_of (tz_at x1 t HX1.out HNE.out HTT.out _ (by exact HR1.out.2.2.2.1))))
                | (go_at_call 88; (refine (take_at (fun d => S d ∨ (w.heap.size + 3 ≤ d ∧ d < wr.heap.size)) nb tb fb first ts fs (k * 64 + t) _ c _ (by omega) (HR1.out.2.2.1.keep (drewN_kept _ _)) hil).mono ?_; rintro e w7 ⟨hv, hk7⟩; obtain ⟨v7, rfl, hch7, hn7⟩ := hv.out; have HCH := hide1 hch7; have HR7 := hide1 (StepR.took (w1 := wr.drewN nq) (HR1.out.keep HSF.out (drewN_kept _ _)) HSF.out hn7 hk7); have HC7 := hide1 (but_cell (w := wr.drewN nq) hk7 c0 (by omega)); clear hv hk7 hch7 hn7))
                | (go_at_call 87; (refine (join_is _ _ (w.heap.size + 1 + 1) v7 _ _ (by exact HR7.out.1) HCH.out (fun e => by rcases e with (e | e) | e; (have := HSF.out.hS _ e; omega); omega; (have h2 := e.1; have h3 : (wr.drewN nq).heap.size = wr.heap.size := rfl; omega)) (chunkTo_ok _ 65 (Nat.le_refl _))).mono ?_; rintro e w8 ⟨rfl, hk8, hB8⟩; have HR8 := hide1 (HR7.out.joined HSF.out hk8 hB8); have HC8 := hide1 (but_cell hk8 HC7.out (by omega)); clear hk8 hB8)))
              go_roundw
              case rel =>
                rw [and_low HX1.out HNE.out]
                refine ⟨t + 1, x1 &&& (x1 - 1), rfl, Nat.lt_trans HLT.out HX1.out, by omega, ?_, ?_, HWN.out.1⟩
                · rw [HWN.out.2.2, if_pos (by omega), ← Nat.or_assoc, ← joinG_all (top_or (by rw [← HB.out]; exact stepsL_top _ _ _ _) (wordTo_top _ _ _ _ _ _)) (takeM_top _ _ _ _)]
                  exact HR8.out
                · exact HC8.out
              case measure => rw [and_low HX1.out HNE.out]; simp only [intOf]; have := HLT.out; omega
    · have HE : Hid (l.take j = l) := List.take_of_length_le (by omega)
      obtain ⟨B, hB⟩ : ∃ B, stepsL ts fs c l = B := ⟨_, rfl⟩
      rw [HE.out, hB] at hR
      have HB : Hid (stepM ts fs A c = B) := by show _ = _; unfold stepM; rw [HL.out, hB]
      clear hB
      go_wp2_with (first
        | (refine wpList_load_row rfl 98 _ rfl (w.heap.size + 1 + 1) rfl 98 (setV B) (0, 0) _ (by exact hR.out.1) Tryz.underlying98 rfl (set_size B) ?_)
        | (refine wpList_store_row rfl 98 _ _ rfl (w.heap.size + 1) (setV B) rfl rfl 98 (setV 0) (by exact hR.out.2.1) (set_size B) (by rw [setV_size, setV_size]) (setV_one B) ?_))
      refine bodyPost_ret (results_cell_row rfl _ _ (w.heap.size + 1) 98 (setV B) (0, 0) _ rfl (setRow_heap _ _ _ _ _ _ hR.out.2.1) Tryz.underlying98 rfl (set_size B)) rfl ?_
      rw [HB.out]
      refine ⟨rfl, ?_, ?_⟩
      · have hl := hR.out.1.lt
        have hnb := HSF.out.hnb
        refine (hR.out.2.2.1.but (setRow_but _ (w.heap.size + 1) _) (by omega) (by omega) (HSF.out.hfb.imp id (fun e => by omega)) (fun e => ?_)).wide (fun d hd => ?_) (fun e => ?_) (fun d hd => ?_)
        · rcases e with e | e
          · have := HSF.out.hS _ e; omega
          · omega
        · rcases hd with hd | hd
          · exact .inl hd
          · exact .inr ⟨by omega, by simpa using hd.2⟩
        · rcases e with e | e
          · exact HSF.out.hSt e
          · omega
        · rcases hd with hd | hd
          · have := HSF.out.hS d hd; simp; omega
          · exact hd.2
      · have h5 := hR.out.2.2.2.2.1
        exact ⟨h5.1, h5.2.1, h5.2.2.1, by simpa using h5.2.2.2.1, fun k hk hne => (setRow_other _ _ _ _ (by omega)).trans (h5.2.2.2.2 k hk hne)⟩

end Ex
end Go.Proofs.YtfajoknacfjedaaGreatDoor
