import Derived.Test.YtlgojnodhbmlkaaGreatDoorMExWr1
namespace Go.Proofs.YtlgojnodhbmlkaaGreatDoor
open Go.RowKit
attribute [local go_sem] Oper.semAt_some
namespace Ex

def kindN : (n : Nat) → PatN n → Int
  | 0, _ => 0
  | _ + 1, p => kind p
def isClassP {n : Nat} (p : PatN (n + 1)) : Bool := kind p == 3 && (kids p).all (fun q => kindN n q == 1)

set_option linter.unusedSimpArgs false in
set_option maxRecDepth 100000 in
set_option maxHeartbeats 4000000 in
theorem isClass_is (S : Nat → Prop) (n : Nat) (p : PatN (n + 1)) (v : Value) (w : World) (h : KidsAt S w n (kids p) v) :
    Calls Tryz.prog 53 #[valOf p v] w fun e w' => e = .returned (.bool (isClassP p)) ∧ Kept w w' := by
  have HK := hide1 h
  obtain ⟨a, cap, rfl⟩ := h.form
  rw [valOf_eq]
  obtain ⟨L, hL⟩ : ∃ L, kids p = L := ⟨_, rfl⟩
  have hlm : L.length ≤ 17592186044416 ∧ L.length ≤ cap ∨ n = 0 := by
    cases n with
    | zero => exact .inr rfl
    | succ n => obtain ⟨a', cap', e', h2, h3, _⟩ := h; simp only [Value.slice.injEq] at e'; rw [hL] at h2 h3; exact .inl ⟨h3, by omega⟩
  have hlm2 : (L.length : Int) ≤ 17592186044416 := by
    rcases hlm with h | h
    · omega
    · subst h; rw [none_of L]; simp
  have HP : Hid (isClassP p = (kind p == 3 && L.all (fun q => kindN n q == 1))) := by show _ = _; unfold isClassP; rw [hL]
  rw [hL] at HK ⊢
  clear h hL hlm
  go_enter Tryz.func53, Tryz.ntmps53
  by_cases hk : kind p = 3
  · go_wp2_with fail
    go_loopw [11] (fun i wr => ∃ j : Nat, i = .int .i64 (j : Int) ∧ j ≤ L.length ∧ Hid (Kept w wr) ∧ Hid ((L.take j).all (fun q => kindN n q == 1) = true)) (fun i _ => L.length - (intOf i).toNat)
    case atStart => exact ⟨0, rfl, Nat.zero_le _, (Kept.refl w).alloc _ _, rfl⟩
    case round =>
      obtain ⟨j, rfl, hj, HKr, HALL⟩ := hrel
      by_cases hlt : (j : Int) < (L.length : Int)
      · obtain ⟨q, hq⟩ : ∃ q, L[j]? = some q := ⟨_, List.getElem?_eq_getElem (by omega)⟩
        cases n with
        | zero => exact (show Empty from q).elim
        | succ n =>
          obtain ⟨a2, cap2, e2, hl2, _, h4⟩ := HK.out.kept HKr.out
          simp only [Value.slice.injEq] at e2
          obtain ⟨rfl, _, rfl⟩ := e2
          have gc : (L.length : Int) ≤ (cap : Int) := by omega
          rcases h4 with h4 | ⟨c, o, rfl, hSc, h7⟩
          · rw [h4] at hq; simp at hq
          · obtain ⟨v', g0, g1, g2, g3, g4, g5, g6⟩ := h7 j q hq
            obtain ⟨a3, cap3, rfl⟩ := g6.form
            have HQ := hide1 hq
            clear h7 g6 hq hl2
            by_cases hrq : kind q = 1
            · have HR : Hid ((kindN (n + 1) q == 1) = true) := by show (kind q == 1) = true; simpa using hrq
              go_wp2_with fail
              go_roundw
              case rel => exact ⟨j + 1, by go_num, by omega, HKr.out.alloc _ _, all_snoc HQ.out HALL.out HR.out⟩
              case measure => simp [intOf]; omega
            · have HR : Hid ((kindN (n + 1) q == 1) = false) := by show (kind q == 1) = false; simpa using hrq
              go_wp2_with fail
              go_ret
              refine ⟨?_, HKr.out.alloc _ _⟩
              rw [HP.out, all_not (f := fun q => kindN (n + 1) q == 1) HQ.out HR.out]
              simp
      · go_wp2_with fail
        go_ret
        have hall : L.all (fun q => kindN n q == 1) = true := by have := HALL.out; rwa [List.take_of_length_le (by omega)] at this
        refine ⟨?_, HKr.out⟩
        rw [HP.out, hall]
        simp [hk]
  · go_wp2_with fail
    go_ret
    refine ⟨?_, (Kept.refl w).alloc _ _⟩
    rw [HP.out]
    simp [hk]

/-- Is a part put in brackets? -/
def bracketP {n : Nat} (q : PatN (n + 1)) (k : Int) : Bool := if kind q = 3 then !isClassP q else if kind q = 2 then k != 3 || (kids q).length == 0 else false
set_option linter.unusedSimpArgs false in
set_option maxRecDepth 100000 in
set_option maxHeartbeats 4000000 in
theorem bracketed_is (S : Nat → Prop) (n : Nat) (p : PatN (n + 1)) (v : Value) (k : Int) (w : World) (h : KidsAt S w n (kids p) v) :
    Calls Tryz.prog 74 #[valOf p v, .int .i64 k] w fun e w' => e = .returned (.bool (bracketP p k)) ∧ Kept w w' := by
  have HK := hide1 h
  obtain ⟨a, cap, rfl⟩ := h.form
  rw [valOf_eq]
  have HP : Hid (bracketP p k = if kind p = 3 then !isClassP p else if kind p = 2 then k != 3 || (kids p).length == 0 else false) := rfl
  clear h
  go_enter Tryz.func74, Tryz.ntmps74
  by_cases hk : kind p = 3
  · obtain ⟨b, hb⟩ : ∃ b, isClassP p = b := ⟨_, rfl⟩
    have HB := hide1 hb
    have HV : Hid (Value.agg #[.int .i64 3, .int .i64 (from_ p), .int .i64 (to_ p), .int .i64 (min_ p), .int .i64 (max_ p), .slice a (kids p).length cap] = valOf p (.slice a (kids p).length cap)) := by show _ = _; rw [valOf_eq, hk]
    clear hb
    go_wp2_with (first | (go_at_call 53; rw [HV.out]; refine (isClass_is S n p _ _ (HK.out.kept ((Kept.refl _).alloc _ _))).mono ?_; rintro e w6 ⟨rfl, hk6⟩; rw [HB.out]; have HK6 := hide1 hk6; clear hk6))
    go_ret
    refine ⟨?_, gtrans ((Kept.refl w).alloc _ _) HK6.out⟩
    rw [HP.out, if_pos hk, HB.out]
    rfl
  · by_cases hk2 : kind p = 2
    · have e : (((kids p).length : Int) == 0) = ((kids p).length == 0) := by rw [Bool.eq_iff_iff]; simp
      have HEE := hide1 e
      clear e
      by_cases h3 : k = 3
      · subst h3
        go_wp2_with fail
        go_ret
        refine ⟨?_, (Kept.refl w).alloc _ _⟩
        rw [HP.out, if_neg hk, if_pos hk2]
        show Ending.returned (.bool (((kids p).length : Int) == 0)) = _
        rw [HEE.out]
        rfl
      · have h4 : (k != 3) = true := by simpa using h3
        have HH4 := hide1 h4
        go_wp2_with fail
        go_ret
        refine ⟨?_, (Kept.refl w).alloc _ _⟩
        rw [HP.out, if_neg hk, if_pos hk2, HH4.out]
        rfl
    · go_wp2_with fail
      go_ret
      refine ⟨?_, (Kept.refl w).alloc _ _⟩
      rw [HP.out, if_neg hk, if_neg hk2]
      rfl

end Ex
end Go.Proofs.YtlgojnodhbmlkaaGreatDoor
namespace Go.Proofs.YtlgojnodhbmlkaaGreatDoor
open Go.RowKit
attribute [local go_sem] Oper.semAt_some
namespace Ex

theorem kids_single {S : Nat → Prop} {W : World} {n g : Nat} {p : PatN (n + 1)} {u : Value} (h : BoxAt W g (.int .i64 (kind p)) (.int .i64 (from_ p)) (.int .i64 (to_ p)) (.int .i64 (min_ p)) (.int .i64 (max_ p)) u) (hk : KidsAt S W n (kids p) u) (hg : S g) : KidsAt S W (n + 1) [p] (.slice (some ⟨g, 0, none⟩) 1 1) := by
  obtain ⟨⟨c0, c1, c2, c3, c4, c5⟩, _⟩ := h.facts
  refine ⟨_, 1, rfl, Nat.le_refl _, by simp, Or.inr ⟨g, 0, rfl, hg, fun i q hq => ?_⟩⟩
  match i with
  | 0 =>
    rw [List.getElem?_cons_zero, Option.some.injEq] at hq
    subst hq
    exact ⟨u, c0, c1, c2, c3, c4, c5, hk⟩
  | i + 1 => simp at hq
theorem box_two {w : World} {n : Nat} {p : PatN (n + 1)} {fr to : Int} {u : Value} {o : Obj} (hf : from_ p = fr) (ht : to_ p = to) : BoxAt ((w.alloc o).alloc (.cells #[.int .i64 (kind p), .int .i64 fr, .int .i64 to, .int .i64 (min_ p), .int .i64 (max_ p), u] 24)) (w.heap.size + 1) (.int .i64 (kind p)) (.int .i64 (from_ p)) (.int .i64 (to_ p)) (.int .i64 (min_ p)) (.int .i64 (max_ p)) u := by
  subst hf ht
  exact heap_alloc2_new w _ _
def rangeW {n : Nat} (p : PatN (n + 1)) : List Int := if from_ p = to_ p then byteW signsS (from_ p) else if from_ p = 0 ∧ to_ p = 255 then [46] else classW [p]
set_option linter.unusedSimpArgs false in
set_option maxRecDepth 100000 in
set_option maxHeartbeats 4000000 in
theorem writeRange_is (S : Nat → Prop) (n : Nat) (p : PatN (n + 1)) (vk : Value) (base : Nat) (w : World) (v : Value) (xs : List Int) (ho : OutAt w base v xs) (hb : base ≤ w.heap.size) (hl : xs.length ≤ 700000000) (hk : KidsAt S w n (kids p) vk) (hS : ∀ d, S d → v.ownBlock ≠ some d) (hf : printedP (from_ p) = true) (ht : printedP (to_ p) = true) :
    Calls Tryz.prog 50 #[v, valOf p vk] w fun r w' => WGives base w v (xs ++ rangeW p) r w' := by
  obtain ⟨a, cap, rfl⟩ := ho.form
  have HO := hide1 ho
  have HOL := hide1 (fun d e => (ho.lt d e).2)
  have HK := hide1 hk
  obtain ⟨ak, ck, rfl⟩ := hk.form
  rw [valOf_eq]
  have hf1 : 32 ≤ from_ p ∧ from_ p ≤ 126 := by have := hf; unfold printedP at this; simpa using this
  have hf2 : 32 ≤ to_ p ∧ to_ p ≤ 126 := by have := ht; unfold printedP at this; simpa using this
  have HF := hide1 hf
  have HT := hide1 ht
  have HR : Hid (rangeW p = if from_ p = to_ p then byteW signsS (from_ p) else if from_ p = 0 ∧ to_ p = 255 then [46] else classW [p]) := rfl
  have HS := hide1 hS
  clear ho hf ht hS
  go_enter Tryz.func50, Tryz.ntmps50
  obtain ⟨fr, hfr⟩ : ∃ x, from_ p = x := ⟨_, rfl⟩
  obtain ⟨to, hto⟩ : ∃ x, to_ p = x := ⟨_, rfl⟩
  have HFR := hide1 hfr
  have HTO := hide1 hto
  rw [hfr] at hf1 HF HR ⊢
  rw [hto] at hf2 HT HR ⊢
  clear hfr hto
  by_cases he : fr = to
  · rw [HR.out, if_pos he]
    subst he
    obtain ⟨zs, hzs⟩ : ∃ zs, xs ++ byteW signsS fr = zs := ⟨_, rfl⟩
    have HZS := hide1 hzs
    rw [hzs]
    clear hzs
    go_wp2_with (first
      | (go_at_call 72; refine (writeByte_is base _ _ xs _ signsS (HO.out.keep ((Kept.refl _).alloc _ _)) (by simp; omega) (by omega) HF.out).mono ?_; rintro r w7 ⟨v7, rfl, ho7, hg7, hw7⟩; rw [HZS.out] at ho7; obtain ⟨a7, c7, e7⟩ := ho7.form; subst e7; have HO7 := hide1 ho7; have HG7 := hide1 (grown_pre ((Kept.refl _).alloc _ _) hg7); have HW7 := hide1 (hw7.pre ((Kept.refl w).alloc _ _).size); clear ho7 hg7 hw7))
    go_ret
    exact ⟨_, rfl, HO7.out, HG7.out, HW7.out⟩
  · have h0 : ¬ (fr = 0 ∧ to = 255) := by omega
    rw [HR.out, if_neg he, if_neg h0]
    obtain ⟨zs, hzs⟩ : ∃ zs, xs ++ classW [p] = zs := ⟨_, rfl⟩
    have HZS := hide1 hzs
    rw [hzs]
    clear hzs
    go_wp2_with (first
      | (go_at_call 54; refine (writeClass_is (fun d => S d ∧ d < w.heap.size ∨ d = w.heap.size + 1) n [p] _ base _ _ xs (HO.out.keep (((Kept.refl _).alloc _ _).alloc _ _)) (by simp; omega) (by simp; omega) (kids_single (box_two HFR.out HTO.out) (KidsAt.mono ((((Kept.refl w).alloc _ _).alloc _ _).holds _) (fun d h => Or.inl h) _ _ _ HK.out.tight) (Or.inr rfl)) (fun d hd e => by rcases hd with hd | hd; exact HS.out d hd.1 e; (have := HOL.out d e; omega)) (fun q hq => by rw [List.mem_singleton] at hq; subst hq; rw [HFR.out, HTO.out]; exact ⟨HF.out, HT.out⟩)).mono ?_; rintro r w7 ⟨v7, rfl, ho7, hg7, hw7⟩; rw [HZS.out] at ho7; obtain ⟨a7, c7, e7⟩ := ho7.form; subst e7; have HO7 := hide1 ho7; have HG7 := hide1 (grown_pre (((Kept.refl _).alloc _ _).alloc _ _) hg7); have HW7 := hide1 (hw7.pre (((Kept.refl w).alloc _ _).alloc _ _).size); clear ho7 hg7 hw7))
    go_ret
    exact ⟨_, rfl, HO7.out, HG7.out, HW7.out⟩

end Ex
end Go.Proofs.YtlgojnodhbmlkaaGreatDoor
namespace Go.Proofs.YtlgojnodhbmlkaaGreatDoor
open Go.RowKit
attribute [local go_sem] Oper.semAt_some
namespace Ex

set_option linter.unusedSimpArgs false in
set_option maxRecDepth 100000 in
set_option maxHeartbeats 4000000 in
theorem small_is (i : Int) (w : World) (h0 : 0 ≤ i) (h1 : i < 10) : Calls Tryz.prog 103 #[.int .i64 i] w fun r w' => Hid (∃ s : ByteArray, r = .returned (.string s) ∧ s.size = 1 ∧ strI s = [48 + i]) ∧ w' = w := by
  have h : i = 0 ∨ i = 1 ∨ i = 2 ∨ i = 3 ∨ i = 4 ∨ i = 5 ∨ i = 6 ∨ i = 7 ∨ i = 8 ∨ i = 9 := by omega
  clear h0 h1
  rcases h with rfl | rfl | rfl | rfl | rfl | rfl | rfl | rfl | rfl | rfl
  all_goals
    go_enter Tryz.func103, Tryz.ntmps103
    go_wp2
    go_ret
    exact ⟨⟨_, rfl, rfl, rfl⟩, rfl⟩

set_option linter.unusedSimpArgs false in
set_option maxRecDepth 100000 in
set_option maxHeartbeats 4000000 in
theorem AppendInt_is (base : Nat) (w : World) (v : Value) (xs : List Int) (i : Int) (ho : OutAt w base v xs) (hb : base ≤ w.heap.size) (hl : xs.length ≤ 900000000) (h0 : 0 ≤ i) (h1 : i < 10) :
    Calls Tryz.prog 73 #[v, .int .i64 i, .int .i64 10] w fun r w' => WGives base w v (xs ++ [48 + i]) r w' := by
  obtain ⟨a, cap, rfl⟩ := ho.form
  have HO := hide1 ho
  obtain ⟨zs, hzs⟩ : ∃ zs, xs ++ [48 + i] = zs := ⟨_, rfl⟩
  have HZS := hide1 hzs
  rw [hzs]
  clear ho hzs
  go_enter Tryz.func73, Tryz.ntmps73
  go_wp2_with (first
    | (go_at_call 103; refine (small_is i _ h0 h1).mono ?_; rintro r w6 ⟨hs, rfl⟩; obtain ⟨s, rfl, hs1, hs2⟩ := hs.out; have HS1 := hide1 hs1; have HS2 := hide1 hs2; clear hs hs1 hs2)
    | (at_builtin; go_must (refine wpl_out_str rfl _ _ rfl _ base _ xs xs.length rfl (by rfl) (by exact HO.out) s (by rfl) (by rw [HS1.out]; decide) (by rw [HS1.out]; omega) hb ?_; intro v9 w9 ho9 hg9 hw9; rw [HS2.out, HZS.out] at ho9; obtain ⟨a9, c9, e9⟩ := ho9.form; subst e9; have HO9 := hide1 ho9; have HG9 := hide1 hg9; have HW9 := hide1 hw9; clear ho9 hg9 hw9))
    | go_in)
  go_ret
  exact ⟨_, rfl, HO9.out, HG9.out, HW9.out⟩

def timesW (mn mx : Int) : List Int :=
  if mn = 0 ∧ mx = -1 then [42] else if mn = 1 ∧ mx = -1 then [43] else if mn = 0 ∧ mx = 1 then [63]
  else 123 :: (48 + mn) :: ((if mx = mn then [] else 44 :: (if mx = -1 then [] else [48 + mx])) ++ [125])
/-- One byte more. -/
theorem wpl_out_one {ops : Array Oper} {rest : List Oper} {o : Oper} {a : Act} {Q : Exit → Act → World → Prop} (hgd : o.guard = none) (s x : Operand)
    (ho : o.op = .call { callee := .builtin .append, args := #[s, x], argTypes := #[27, 27] }) (w W : World) (base : Nat) (v0 v : Value) (cs : List Int) (n : Nat) (hn : cs.length = n) (b : Int) (t : TypeId) (hs : a.eval s = v) (hown : OutAt W base v cs) (hg : w.grownBy W v0.ownBlock) (hw : Own1 w v0 v)
    (hx : a.eval x = .slice (some ⟨W.heap.size, 0, none⟩) 1 1) (hl : n ≤ 900000000) (hbase : base ≤ w.heap.size)
    (h : ∀ g cap w' l, l = cs ++ [b] → l.length = n + 1 → OutAt w' base (.slice (some ⟨g, 0, none⟩) (n + 1) cap) l → w.grownBy w' v0.ownBlock → Own1 w v0 (.slice (some ⟨g, 0, none⟩) (n + 1) cap) → wpList Tryz.prog ops Q rest (a.put o.dst (.slice (some ⟨g, 0, none⟩) (n + 1) cap)) w') : wpList Tryz.prog ops Q (o :: rest) a (W.alloc (.cells #[.int .u8 b] t)) := by
  refine wpl_out_bytes hgd s x ho _ base v cs n hn hs (hown.keep ((Kept.refl _).alloc _ _)) W.heap.size [b] 1 rfl hx (one_lit _ _ _) (by decide) (by omega) (by have := hg.size; simp; omega) ?_
  intro g cap w' h1 h2 h3
  exact h g cap w' _ rfl (by rw [List.length_append, hn]; rfl) h1 (grown_trans hg hw (grown_pre ((Kept.refl _).alloc _ _) h2)) (hw.trans (h3.pre ((Kept.refl W).alloc _ _).size) hg.size)

set_option linter.unusedSimpArgs false in
set_option maxRecDepth 100000 in
set_option maxHeartbeats 4000000 in
theorem writeTimes_is (base : Nat) (w : World) (v : Value) (xs : List Int) (mn mx : Int) (ho : OutAt w base v xs) (hb : base ≤ w.heap.size) (hl : xs.length ≤ 800000000) (h0 : 0 ≤ mn) (h1 : mn < 10) (h2 : mx = -1) :
    Calls Tryz.prog 51 #[v, .int .i64 mn, .int .i64 mx] w fun r w' => WGives base w v (xs ++ timesW mn mx) r w' := by
  obtain ⟨a, cap, rfl⟩ := ho.form
  have HO := hide1 ho
  have HG := hide1 (grown_kept (Kept.refl w) (Value.slice a xs.length cap).ownBlock)
  have HW := hide1 (Own1.refl w (Value.slice a xs.length cap))
  clear ho
  go_enter Tryz.func51, Tryz.ntmps51
  by_cases hm : mx = -1
  · clear h2
    subst hm
    by_cases hm0 : mn = 0
    · subst hm0
      go_wp2_with (first
        | (at_builtin; refine wpl_out_one rfl _ _ rfl w _ base _ _ xs xs.length rfl 42 _ (by rfl) HO.out HG.out HW.out (by rfl) (by omega) hb ?_; intro g9 c9 w9 cs1 hcs hcl ho9 hg9 hw9; have HO1 := hide1 ho9; have HG1 := hide1 hg9; have HW1 := hide1 hw9; have HCS1 := hide1 hcs; have hcl1 : cs1.length ≤ xs.length + 1 := (by omega); have HCL1 := hide1 hcl; clear ho9 hg9 hw9 hcs hcl))
      go_ret
      have e : xs ++ timesW 0 (-1) = cs1 := by rw [HCS1.out]; rfl
      rw [e]
      exact ⟨_, rfl, HO1.out, HG1.out, HW1.out⟩
    · by_cases hm1 : mn = 1
      · subst hm1
        go_wp2_with (first
          | (at_builtin; refine wpl_out_one rfl _ _ rfl w _ base _ _ xs xs.length rfl 43 _ (by rfl) HO.out HG.out HW.out (by rfl) (by omega) hb ?_; intro g9 c9 w9 cs1 hcs hcl ho9 hg9 hw9; have HO1 := hide1 ho9; have HG1 := hide1 hg9; have HW1 := hide1 hw9; have HCS1 := hide1 hcs; have hcl1 : cs1.length ≤ xs.length + 1 := (by omega); have HCL1 := hide1 hcl; clear ho9 hg9 hw9 hcs hcl))
        go_ret
        have e : xs ++ timesW 1 (-1) = cs1 := by rw [HCS1.out]; rfl
        rw [e]
        exact ⟨_, rfl, HO1.out, HG1.out, HW1.out⟩
      · have HT : Hid (timesW mn (-1) = [123, 48 + mn, 44, 125]) := by
          show _ = _
          unfold timesW
          rw [if_neg (by omega), if_neg (by omega), if_neg (by omega), if_neg (by omega), if_pos rfl]
          rfl
        go_wp2_with (first
          | (have _g := HO3; clear _g; at_builtin; refine wpl_out_one rfl _ _ rfl w _ base _ _ cs3 cs3.length rfl 125 _ (by rfl) HO3.out HG3.out HW3.out (by rfl) (by omega) hb ?_; intro g9 c9 w9 cs4 hcs hcl ho9 hg9 hw9; have HO4 := hide1 ho9; have HG4 := hide1 hg9; have HW4 := hide1 hw9; have HCS4 := hide1 hcs; have hcl4 : cs4.length ≤ xs.length + 4 := (by omega); have HCL4 := hide1 hcl; clear ho9 hg9 hw9 hcs hcl)
          | (have _g := HO2; clear _g; at_builtin; refine wpl_out_one rfl _ _ rfl w _ base _ _ cs2 cs2.length rfl 44 _ (by rfl) HO2.out HG2.out HW2.out (by rfl) (by omega) hb ?_; intro g9 c9 w9 cs3 hcs hcl ho9 hg9 hw9; have HO3 := hide1 ho9; have HG3 := hide1 hg9; have HW3 := hide1 hw9; have HCS3 := hide1 hcs; have hcl3 : cs3.length ≤ xs.length + 3 := (by omega); have HCL3 := hide1 hcl; clear ho9 hg9 hw9 hcs hcl)
          | (have _g := HO1; clear _g; go_at_call 73; refine (AppendInt_is base _ _ cs1 mn (by exact HO1.out) (by have := HG1.out.size; omega) (by omega) (by omega) (by omega)).mono ?_; rintro r w8 ⟨v8, rfl, ho8, hg8, hw8⟩; obtain ⟨cs2, hcs⟩ : ∃ l, cs1 ++ [48 + mn] = l := ⟨_, rfl⟩; rw [hcs] at ho8; have hcl2 : cs2.length ≤ xs.length + 2 := (by rw [← hcs, List.length_append]; simp; omega); obtain ⟨a8, c8, e8⟩ := ho8.form; subst e8; have HO2 := hide1 ho8; have HG2 := hide1 (grown_trans HG1.out HW1.out hg8); have HW2 := hide1 (HW1.out.trans hw8 HG1.out.size); have HCS2 := hide1 hcs.symm; clear ho8 hg8 hw8 hcs)
          | (at_builtin; refine wpl_out_one rfl _ _ rfl w _ base _ _ xs xs.length rfl 123 _ (by rfl) HO.out HG.out HW.out (by rfl) (by omega) hb ?_; intro g9 c9 w9 cs1 hcs hcl ho9 hg9 hw9; have HO1 := hide1 ho9; have HG1 := hide1 hg9; have HW1 := hide1 hw9; have HCS1 := hide1 hcs; have hcl1 : cs1.length ≤ xs.length + 1 := (by omega); have HCL1 := hide1 hcl; clear ho9 hg9 hw9 hcs hcl))
        go_ret
        have e : xs ++ timesW mn (-1) = cs4 := by rw [HCS4.out, HCS3.out, HCS2.out, HCS1.out]; rw [HT.out]; simp
        rw [e]
        exact ⟨_, rfl, HO4.out, HG4.out, HW4.out⟩
  · exact absurd h2 hm

end Ex
end Go.Proofs.YtlgojnodhbmlkaaGreatDoor
