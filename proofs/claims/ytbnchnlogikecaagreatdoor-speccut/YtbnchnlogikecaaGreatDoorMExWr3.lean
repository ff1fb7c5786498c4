import Derived.Test.YtbnchnlogikecaaGreatDoorMGtI
import Derived.Deep.RegionHeld3
namespace Go.Proofs.YtbnchnlogikecaaGreatDoor
open Go.RowKit
attribute [local go_sem] Oper.semAt_some
namespace Ex

def escS : ByteArray := ⟨#[93, 92, 45, 47, 94]⟩
def memW {n : Nat} (q : PatN (n + 1)) : List Int := byteW escS (from_ q) ++ if from_ q < to_ q then 45 :: byteW escS (to_ q) else []
def classW {n : Nat} (L : List (PatN (n + 1))) : List Int := 91 :: (L.flatMap memW ++ [93])
theorem byteW_len (s : ByteArray) (c : Int) : (byteW s c).length ≤ 4 := by unfold byteW; (repeat' split) <;> simp
theorem memW_len {n : Nat} (q : PatN (n + 1)) : (memW q).length ≤ 9 := by
  unfold memW
  have h1 := byteW_len escS (from_ q)
  have h2 := byteW_len escS (to_ q)
  rw [List.length_append]
  split <;> simp <;> omega
theorem flat_len {α : Type} (f : α → List Int) (k : Nat) (hf : ∀ x, (f x).length ≤ k) : ∀ L : List α, (L.flatMap f).length ≤ k * L.length
  | [] => by simp
  | x :: L => by rw [List.flatMap_cons, List.length_append, List.length_cons, Nat.mul_succ]; have := flat_len f k hf L; have := hf x; omega
theorem flat_snoc {α : Type} {f : α → List Int} {L : List α} {j : Nat} {q : α} (hq : L[j]? = some q) : (L.take (j + 1)).flatMap f = (L.take j).flatMap f ++ f q := by
  obtain ⟨hj, rfl⟩ := List.getElem?_eq_some_iff.1 hq
  rw [List.take_succ_eq_append_getElem hj, List.flatMap_append]
  simp
/-- What is not the row's own stays. -/
theorem grown_holds {S : Nat → Prop} {w w' : World} {v : Value} (hg : w.grownBy w' v.ownBlock) (hS : ∀ d, S d → v.ownBlock ≠ some d) : Holds S w w' := fun d _ _ hd hc => hg.cell hc (fun e => hS d hd e.symm)
def Fine {n : Nat} (L : List (PatN (n + 1))) : Prop := ∀ q ∈ L, printedP (from_ q) = true ∧ printedP (to_ q) = true

theorem step_out_bytes {ops : Array Oper} {o : Oper} {a : Act} {K : Act → World → Prop} {Q : Exit → Act → World → Prop} {E : Prop} (hgd : o.guard = none) (s x : Operand)
    (ho : o.op = .call { callee := .builtin .append, args := #[s, x], argTypes := #[100, 100] }) (W : World) (base : Nat) (v : Value) (xs : List Int) (n : Nat) (hn : xs.length = n) (hs : a.eval s = v) (hown : OutAt W base v xs)
    (lb : Nat) (ys : List Int) (m : Nat) (hm : ys.length = m) (hx : a.eval x = .slice (some ⟨lb, 0, none⟩) m m) (hc : ∀ (j : Nat) (y : Int), ys[j]? = some y → W.cell? ⟨lb, j, none⟩ = some (.int .u8 y)) (hpos : 0 < m) (hl : n + m ≤ 1000000000) (hbase : base ≤ W.heap.size)
    (h : ∀ g cap w', OutAt w' base (.slice (some ⟨g, 0, none⟩) (n + m) cap) (xs ++ ys) → W.grownBy w' v.ownBlock → Own1 W v (.slice (some ⟨g, 0, none⟩) (n + m) cap) → K (a.put o.dst (.slice (some ⟨g, 0, none⟩) (n + m) cap)) w') :
    if Region.wanted o (yielded ops a.tmps) = true then Oper.wp Tryz.prog o a W K Q else E := by
  obtain ⟨i0, hi, hz0, hz1, hz2⟩ := info_parts u8_info
  subst hn hm
  refine step_append_lies W hgd s x 100 ho base 5 i0 _ 1 1 Tryz.underlying100 hi hz0 hz1 hz2 rfl (by decide) v xs.length (byteV xs) hs hown ⟨lb, 0, none⟩ ys.length ys.length (byteV ys) hx (by rw [byteV_len]; omega) ?_ (byteV_one ys) hpos (by unfold maxLen; omega) (by omega) hbase W.heap.size rfl ?_
  · intro j u hj
    simp only [byteV, List.getElem?_map] at hj
    obtain ⟨y, hy, rfl⟩ := Option.map_eq_some_iff.1 hj
    rw [Addr.add_lit, Nat.zero_add]
    exact hc j y hy
  · intro g cap w' h3 h4 h5 _
    refine h g cap w' ?_ h4 ?_
    · show w'.ownsRow base 5 1 _ (xs ++ ys).length (byteV (xs ++ ys))
      rw [List.length_append, byteV_app]
      exact h3
    · rcases h5 with h5 | h5
      · exact .inl h5.symm
      · exact .inr ⟨g, rfl, by omega⟩
theorem own_far {w : World} {o : Obj} {v v' : Value} (h : Own1 (w.alloc o) v v') (hv : ∀ d, v.ownBlock = some d → d < w.heap.size) : some w.heap.size ≠ v'.ownBlock := by
  intro e
  rcases h with h | ⟨g, hg, hl⟩
  · have := hv _ (h.symm.trans e.symm); omega
  · rw [hg, Option.some.injEq] at e; simp at hl; omega
theorem own_far2 {W : World} {v v' : Value} {x : Nat} (h : Own1 W v v') (hx : x < W.heap.size) (hv : some x ≠ v.ownBlock) : some x ≠ v'.ownBlock := by
  intro e
  rcases h with h | ⟨g, hg, hl⟩
  · exact hv (e.trans h)
  · rw [hg, Option.some.injEq] at e; omega
def ClassWR {n : Nat} (_S : Nat → Prop) (L : List (PatN (n + 1))) (base : Nat) (w : World) (v : Value) (xs : List Int) (vo i : Value) (wr : World) : Prop :=
  ∃ j : Nat, i = .int .i64 (j : Int) ∧ j ≤ L.length ∧ OutAt wr base vo (xs ++ 91 :: (L.take j).flatMap memW) ∧ w.grownBy wr v.ownBlock ∧ Own1 w v vo
set_option linter.unusedSimpArgs false in
set_option maxRecDepth 100000 in
set_option maxHeartbeats 4000000 in
theorem writeClass_is (S : Nat → Prop) (n : Nat) (L : List (PatN (n + 1))) (vl : Value) (base : Nat) (w : World) (v : Value) (xs : List Int) (ho : OutAt w base v xs) (hb : base ≤ w.heap.size) (hl : xs.length + 9 * L.length ≤ 800000000) (hk : KidsAt S w (n + 1) L vl) (hS : ∀ d, S d → v.ownBlock ≠ some d) (hF : Fine L) :
    Calls Tryz.prog 67 #[v, vl] w fun r w' => WGives base w v (xs ++ classW L) r w' := by
  obtain ⟨a, cap, rfl⟩ := ho.form
  have HO := hide1 ho
  have HK := hide1 hk
  have HS := hide1 hS
  have HF := hide1 hF
  obtain ⟨al, cl, el, hlc, hlm, _⟩ := hk
  subst el
  have gl : (L.length : Int) ≤ 17592186044416 := by omega
  have gc : (L.length : Int) ≤ (cl : Int) := by omega
  clear ho hS hF hlc hlm
  go_enter Tryz.func67, Tryz.ntmps67
  go_wp2_with (first
    | (at_builtin; go_must (refine wpl_out_bytes rfl _ _ rfl _ base _ xs xs.length rfl (by rfl) (HO.out.keep ((Kept.refl _).alloc _ _)) _ [91] 1 rfl (by rfl) (one_lit _ _ _) (by omega) (by omega) (by simp; omega) ?_; intro g9 c9 w9 ho9 hg9 hw9; have HO9 := hide1 ho9; have HG9 := hide1 (grown_pre ((Kept.refl _).alloc _ _) hg9); have HW9 := hide1 (hw9.pre ((Kept.refl w).alloc _ _).size); clear ho9 hg9 hw9)))
  go_loopw [0, 12] (fun vo i wr => ClassWR S L base w (.slice a xs.length cap) xs vo i wr) (fun _ i _ => L.length - (intOf i).toNat)
  case atStart => exact ⟨0, rfl, Nat.zero_le _, by simpa using HO9.out, HG9.out, HW9.out⟩
  case round =>
    obtain ⟨j, rfl, hj, ho, hg, hw⟩ := hrel
    have hlen := flat_len (memW (n := n)) 9 memW_len (L.take j)
    rw [List.length_take] at hlen
    obtain ⟨ys, hys⟩ : ∃ ys, xs ++ 91 :: (L.take j).flatMap memW = ys := ⟨_, rfl⟩
    have hyl : ys.length ≤ xs.length + 1 + 9 * L.length := by rw [← hys, List.length_append, List.length_cons]; omega
    rw [hys] at ho
    have HYS := hide1 hys
    obtain ⟨ao, co, eo⟩ := ho.form
    subst eo
    have HO := hide1 ho
    have HG := hide1 hg
    have HW := hide1 hw
    have hbr := hg.size
    have hbase : base ≤ wr.heap.size := by omega
    have HOL := hide1 (fun d e => (ho.lt d e).2)
    clear hlen hys
    by_cases hlt : (j : Int) < (L.length : Int)
    · obtain ⟨q, hq⟩ : ∃ q, L[j]? = some q := ⟨_, List.getElem?_eq_getElem (by omega)⟩
      obtain ⟨a2, cap2, e2, _, _, h4⟩ := KidsAt.mono (grown_holds hg HS.out) (fun _ h => h) _ _ _ HK.out
      simp only [Value.slice.injEq] at e2
      obtain ⟨rfl, _, rfl⟩ := e2
      rcases h4 with h4 | ⟨c, o, rfl, hSc, h7⟩
      · rw [h4] at hq; simp at hq
      · obtain ⟨v', g0, g1, g2, g3, g4, g5, g6⟩ := h7 j q hq
        obtain ⟨a3, cap3, rfl⟩ := g6.form
        have hfi := HF.out q (List.mem_of_getElem? hq)
        have hf1 : 32 ≤ from_ q ∧ from_ q ≤ 126 := by have := hfi.1; unfold printedP at this; simpa using this
        have hf2 : 32 ≤ to_ q ∧ to_ q ≤ 126 := by have := hfi.2; unfold printedP at this; simpa using this
        have HFI := hide1 hfi
        have HQ := hide1 hq
        clear h7 g6 hq ho hg hw hfi
        obtain ⟨zs, hzs⟩ : ∃ zs, ys ++ byteW escS (from_ q) = zs := ⟨_, rfl⟩
        have hzl : zs.length ≤ ys.length + 4 := by rw [← hzs, List.length_append]; have := byteW_len escS (from_ q); omega
        have HZS := hide1 hzs
        clear hzs
        by_cases hft : from_ q < to_ q
        · go_wp2_with (first
            | (go_at_call 81; refine (writeByte_is base _ _ ys _ escS (HO.out.keep ((Kept.refl _).alloc _ _)) (by simp; omega) (by omega) HFI.out.1).mono ?_; rintro r w7 ⟨v7, rfl, ho7, hg7, hw7⟩; rw [HZS.out] at ho7; obtain ⟨a7, c7, e7⟩ := ho7.form; subst e7; have HO7 := hide1 ho7; have HG7 := hide1 hg7; have HW7 := hide1 hw7; have HBM := hide1 (show BoxAt w7 wr.heap.size _ _ _ _ _ _ from (hg7.block _ (by simp) (fun e => by have := HOL.out _ e.symm; omega)).trans (BoxAt.new wr _ _ _ _ _ _)); obtain ⟨⟨m0, m1, m2, m3, m4, m5⟩, _⟩ := HBM.out.facts; have hs7 := HBM.out.lt; have HNB : Hid (some wr.heap.size ≠ (Value.slice a7 zs.length c7).ownBlock) := own_far hw7 HOL.out; clear ho7 hg7 hw7))
          have HWR : Hid (IntKind.u8.wrap (to_ q) = to_ q) := by show _ = _; rw [IntKind.wrap_u8]; omega
          go_region_held3 (fun w' => w'.cell? ⟨wr.heap.size, 2, none⟩ = some (.int .i64 (to_ q))) (first | assumption | go_keep)
            ((first
              | (go_at_call 81; refine (writeByte_is base _ _ (zs ++ [45]) _ escS (by exact ho1) (by have := hg1'.size; omega) (by simp; omega) (by first | exact HFI.out.2 | (rw [HWR.out]; exact HFI.out.2))).mono ?_; rintro r w8 ⟨v8, rfl, ho8, hg8, hw8⟩; try rw [HWR.out] at ho8; have k8 := hg8.cell k1 n1)
              | (refine step_out_bytes (by rfl) _ _ (by rfl) _ base _ zs zs.length rfl (by rfl) (HO7.out.keep (by first | exact (Kept.refl _).alloc _ _ | exact Kept.alloc (drew_kept _) _ _ | exact Kept.alloc (drewN_kept _ _) _ _ | exact gtrans (drew_kept _) ((Kept.refl _).alloc _ _) | exact gtrans (gtrans (drew_kept _) ((Kept.refl _).alloc _ _)) (drew_kept _))) _ [45] 1 rfl (by rfl) (one_lit _ _ _) (by omega) (by omega) (by simp; omega) ?_; intro g1 c1 w1 ho1 hg1 hw1; have k1 := hg1.cell (a := ⟨wr.heap.size, 2, none⟩) (grown_cell (w := w7) (by first | exact (Kept.refl _).alloc _ _ | exact Kept.alloc (drew_kept _) _ _ | exact Kept.alloc (drewN_kept _ _) _ _ | exact gtrans (drew_kept _) ((Kept.refl _).alloc _ _) | exact gtrans (gtrans (drew_kept _) ((Kept.refl _).alloc _ _)) (drew_kept _)) m2) HNB.out; have n1 := own_far2 hw1 (x := wr.heap.size) (by simp; omega) HNB.out; have hg1' := grown_pre (w := w7) (by first | exact (Kept.refl _).alloc _ _ | exact Kept.alloc (drew_kept _) _ _ | exact Kept.alloc (drewN_kept _ _) _ _ | exact gtrans (drew_kept _) ((Kept.refl _).alloc _ _) | exact gtrans (gtrans (drew_kept _) ((Kept.refl _).alloc _ _)) (drew_kept _)) hg1; have hw1' := Own1.pre (w := w7) hw1 (Kept.size (by first | exact (Kept.refl _).alloc _ _ | exact Kept.alloc (drew_kept _) _ _ | exact Kept.alloc (drewN_kept _ _) _ _ | exact gtrans (drew_kept _) ((Kept.refl _).alloc _ _) | exact gtrans (gtrans (drew_kept _) ((Kept.refl _).alloc _ _)) (drew_kept _))))))
          have HO8 := hide1 ho8
          have HG8 := hide1 (grown_trans (grown_trans (grown_trans HG.out HW.out (grown_pre ((Kept.refl _).alloc _ _) HG7.out)) (HW.out.trans (HW7.out.pre ((Kept.refl wr).alloc _ _).size) HG.out.size) hg1') (HW.out.trans ((HW7.out.pre ((Kept.refl wr).alloc _ _).size).trans hw1' (grown_pre ((Kept.refl wr).alloc _ _) HG7.out).size) HG.out.size) hg8)
          have HW8 := hide1 (HW.out.trans ((HW7.out.pre ((Kept.refl wr).alloc _ _).size).trans (hw1'.trans hw8 hg1'.size) (grown_pre ((Kept.refl wr).alloc _ _) HG7.out).size) HG.out.size)
          clear ho1 hg1 hw1 k1 n1 hg1' hw1' ho8 hg8 hw8 k8
          go_wp2_with fail
          go_roundw
          case rel =>
            refine ⟨j + 1, by go_num, by omega, ?_, HG8.out, HW8.out⟩
            have h8 := HO8.out
            have e8 : zs ++ [45] ++ byteW escS (to_ q) = xs ++ 91 :: (L.take (j + 1)).flatMap memW := by
              rw [flat_snoc HQ.out, ← HZS.out, ← HYS.out, memW, if_pos hft]
              simp
            rw [← e8]
            exact h8
          case measure => simp [intOf]; omega
        · go_wp2_with (first
            | (go_at_call 81; refine (writeByte_is base _ _ ys _ escS (HO.out.keep ((Kept.refl _).alloc _ _)) (by simp; omega) (by omega) HFI.out.1).mono ?_; rintro r w7 ⟨v7, rfl, ho7, hg7, hw7⟩; rw [HZS.out] at ho7; obtain ⟨a7, c7, e7⟩ := ho7.form; subst e7; have HO7 := hide1 ho7; have HG7 := hide1 hg7; have HW7 := hide1 hw7; have HBM := hide1 (show BoxAt w7 wr.heap.size _ _ _ _ _ _ from (hg7.block _ (by simp) (fun e => by have := HOL.out _ e.symm; omega)).trans (BoxAt.new wr _ _ _ _ _ _)); obtain ⟨⟨m0, m1, m2, m3, m4, m5⟩, _⟩ := HBM.out.facts; clear ho7 hg7 hw7))
          go_roundw
          case rel =>
            refine ⟨j + 1, by go_num, by omega, ?_, grown_trans HG.out HW.out (grown_pre ((Kept.refl _).alloc _ _) HG7.out), HW.out.trans (HW7.out.pre ((Kept.refl wr).alloc _ _).size) HG.out.size⟩
            have h7 := HO7.out
            have e7 : zs = xs ++ 91 :: (L.take (j + 1)).flatMap memW := by
              rw [flat_snoc HQ.out, ← HZS.out, ← HYS.out, memW, if_neg (by omega)]
              simp
            rw [← e7]
            exact h7
          case measure => simp [intOf]; omega
    · have hE : ys = xs ++ 91 :: L.flatMap memW := by have := HYS.out; rw [List.take_of_length_le (by omega)] at this; exact this.symm
      have HE := hide1 hE
      clear hE
      go_wp2_with (first
        | (at_builtin; go_must (refine wpl_out_bytes rfl _ _ rfl _ base _ ys ys.length rfl (by rfl) (HO.out.keep ((Kept.refl _).alloc _ _)) _ [93] 1 rfl (by rfl) (one_lit _ _ _) (by omega) (by omega) (by simp; omega) ?_; intro g5 c5 w5 ho5 hg5 hw5; have HO5 := hide1 ho5; have HG5 := hide1 (grown_pre ((Kept.refl _).alloc _ _) hg5); have HW5 := hide1 (hw5.pre ((Kept.refl wr).alloc _ _).size); clear ho5 hg5 hw5)))
      go_ret
      refine ⟨_, rfl, ?_, grown_trans HG.out HW.out HG5.out, HW.out.trans HW5.out HG.out.size⟩
      have e5 : xs ++ classW L = ys ++ [93] := by rw [HE.out]; unfold classW; simp
      rw [e5]
      exact HO5.out

end Ex
end Go.Proofs.YtbnchnlogikecaaGreatDoor
namespace Go.Proofs.YtbnchnlogikecaaGreatDoor
open Go.RowKit
attribute [local go_sem] Oper.semAt_some
namespace Ex

def kindN : (n : Nat) → PatN n → Int
  | 0, _ => 0
  | _ + 1, p => kind p
def isClassP {n : Nat} (p : PatN (n + 1)) : Bool := kind p == 3 && (kids p).all (fun q => kindN n q == 1)

set_option linter.unusedSimpArgs false in
set_option maxRecDepth 100000 in
set_option maxHeartbeats 4000000 in
theorem isClass_is (S : Nat → Prop) (n : Nat) (p : PatN (n + 1)) (v : Value) (w : World) (h : KidsAt S w n (kids p) v) :
    Calls Tryz.prog 66 #[valOf p v] w fun e w' => e = .returned (.bool (isClassP p)) ∧ Kept w w' := by
  have HK := hide1 h
  obtain ⟨a, cap, rfl⟩ := h.form
  rw [valOf_eq]
  obtain ⟨L, hL⟩ : ∃ L, kids p = L := ⟨_, rfl⟩
  have hlm : L.length ≤ 17592186044416 ∧ L.length ≤ cap ∨ n = 0 := by
    cases n with
    | zero => exact .inr rfl
    | succ n => obtain ⟨a', cap', e', h2, h3, _⟩ := h; simp only [Value.slice.injEq] at e'; rw [hL] at h2 h3; exact .inl ⟨h3, by omega⟩
  have hlm2 : (L.length : Int) ≤ 17592186044416 := by
    rcases hlm with h | h
    · omega
    · subst h; rw [none_of L]; simp
  have HP : Hid (isClassP p = (kind p == 3 && L.all (fun q => kindN n q == 1))) := by show _ = _; unfold isClassP; rw [hL]
  rw [hL] at HK ⊢
  clear h hL hlm
  go_enter Tryz.func66, Tryz.ntmps66
  by_cases hk : kind p = 3
  · go_wp2_with fail
    go_loopw [11] (fun i wr => ∃ j : Nat, i = .int .i64 (j : Int) ∧ j ≤ L.length ∧ Hid (Kept w wr) ∧ Hid ((L.take j).all (fun q => kindN n q == 1) = true)) (fun i _ => L.length - (intOf i).toNat)
    case atStart => exact ⟨0, rfl, Nat.zero_le _, (Kept.refl w).alloc _ _, rfl⟩
    case round =>
      obtain ⟨j, rfl, hj, HKr, HALL⟩ := hrel
      by_cases hlt : (j : Int) < (L.length : Int)
      · obtain ⟨q, hq⟩ : ∃ q, L[j]? = some q := ⟨_, List.getElem?_eq_getElem (by omega)⟩
        cases n with
        | zero => exact (show Empty from q).elim
        | succ n =>
          obtain ⟨a2, cap2, e2, hl2, _, h4⟩ := HK.out.kept HKr.out
          simp only [Value.slice.injEq] at e2
          obtain ⟨rfl, _, rfl⟩ := e2
          have gc : (L.length : Int) ≤ (cap : Int) := by omega
          rcases h4 with h4 | ⟨c, o, rfl, hSc, h7⟩
          · rw [h4] at hq; simp at hq
          · obtain ⟨v', g0, g1, g2, g3, g4, g5, g6⟩ := h7 j q hq
            obtain ⟨a3, cap3, rfl⟩ := g6.form
            have HQ := hide1 hq
            clear h7 g6 hq hl2
            by_cases hrq : kind q = 1
            · have HR : Hid ((kindN (n + 1) q == 1) = true) := by show (kind q == 1) = true; simpa using hrq
              go_wp2_with fail
              go_roundw
              case rel => exact ⟨j + 1, by go_num, by omega, HKr.out.alloc _ _, all_snoc HQ.out HALL.out HR.out⟩
              case measure => simp [intOf]; omega
            · have HR : Hid ((kindN (n + 1) q == 1) = false) := by show (kind q == 1) = false; simpa using hrq
              go_wp2_with fail
              go_ret
              refine ⟨?_, HKr.out.alloc _ _⟩
              rw [HP.out, all_not (f := fun q => kindN (n + 1) q == 1) HQ.out HR.out]
              simp
      · go_wp2_with fail
        go_ret
        have hall : L.all (fun q => kindN n q == 1) = true := by have := HALL.out; rwa [List.take_of_length_le (by omega)] at this
        refine ⟨?_, HKr.out⟩
        rw [HP.out, hall]
        simp [hk]
  · go_wp2_with fail
    go_ret
    refine ⟨?_, (Kept.refl w).alloc _ _⟩
    rw [HP.out]
    simp [hk]

/-- Is a part put in brackets? -/
def bracketP {n : Nat} (q : PatN (n + 1)) (k : Int) : Bool := if kind q = 3 then !isClassP q else if kind q = 2 then k != 3 || (kids q).length == 0 else false
set_option linter.unusedSimpArgs false in
set_option maxRecDepth 100000 in
set_option maxHeartbeats 4000000 in
theorem bracketed_is (S : Nat → Prop) (n : Nat) (p : PatN (n + 1)) (v : Value) (k : Int) (w : World) (h : KidsAt S w n (kids p) v) :
    Calls Tryz.prog 83 #[valOf p v, .int .i64 k] w fun e w' => e = .returned (.bool (bracketP p k)) ∧ Kept w w' := by
  have HK := hide1 h
  obtain ⟨a, cap, rfl⟩ := h.form
  rw [valOf_eq]
  have HP : Hid (bracketP p k = if kind p = 3 then !isClassP p else if kind p = 2 then k != 3 || (kids p).length == 0 else false) := rfl
  clear h
  go_enter Tryz.func83, Tryz.ntmps83
  by_cases hk : kind p = 3
  · obtain ⟨b, hb⟩ : ∃ b, isClassP p = b := ⟨_, rfl⟩
    have HB := hide1 hb
    have HV : Hid (Value.agg #[.int .i64 3, .int .i64 (from_ p), .int .i64 (to_ p), .int .i64 (min_ p), .int .i64 (max_ p), .slice a (kids p).length cap] = valOf p (.slice a (kids p).length cap)) := by show _ = _; rw [valOf_eq, hk]
    clear hb
    go_wp2_with (first | (go_at_call 66; rw [HV.out]; refine (isClass_is S n p _ _ (HK.out.kept ((Kept.refl _).alloc _ _))).mono ?_; rintro e w6 ⟨rfl, hk6⟩; rw [HB.out]; have HK6 := hide1 hk6; clear hk6))
    go_ret
    refine ⟨?_, gtrans ((Kept.refl w).alloc _ _) HK6.out⟩
    rw [HP.out, if_pos hk, HB.out]
    rfl
  · by_cases hk2 : kind p = 2
    · have e : (((kids p).length : Int) == 0) = ((kids p).length == 0) := by rw [Bool.eq_iff_iff]; simp
      have HEE := hide1 e
      clear e
      by_cases h3 : k = 3
      · subst h3
        go_wp2_with fail
        go_ret
        refine ⟨?_, (Kept.refl w).alloc _ _⟩
        rw [HP.out, if_neg hk, if_pos hk2]
        show Ending.returned (.bool (((kids p).length : Int) == 0)) = _
        rw [HEE.out]
        rfl
      · have h4 : (k != 3) = true := by simpa using h3
        have HH4 := hide1 h4
        go_wp2_with fail
        go_ret
        refine ⟨?_, (Kept.refl w).alloc _ _⟩
        rw [HP.out, if_neg hk, if_pos hk2, HH4.out]
        rfl
    · go_wp2_with fail
      go_ret
      refine ⟨?_, (Kept.refl w).alloc _ _⟩
      rw [HP.out, if_neg hk, if_neg hk2]
      rfl

end Ex
end Go.Proofs.YtbnchnlogikecaaGreatDoor
namespace Go.Proofs.YtbnchnlogikecaaGreatDoor
open Go.RowKit
attribute [local go_sem] Oper.semAt_some
namespace Ex

theorem kids_single {S : Nat → Prop} {W : World} {n g : Nat} {p : PatN (n + 1)} {u : Value} (h : BoxAt W g (.int .i64 (kind p)) (.int .i64 (from_ p)) (.int .i64 (to_ p)) (.int .i64 (min_ p)) (.int .i64 (max_ p)) u) (hk : KidsAt S W n (kids p) u) (hg : S g) : KidsAt S W (n + 1) [p] (.slice (some ⟨g, 0, none⟩) 1 1) := by
  obtain ⟨⟨c0, c1, c2, c3, c4, c5⟩, _⟩ := h.facts
  refine ⟨_, 1, rfl, Nat.le_refl _, by simp, Or.inr ⟨g, 0, rfl, hg, fun i q hq => ?_⟩⟩
  match i with
  | 0 =>
    rw [List.getElem?_cons_zero, Option.some.injEq] at hq
    subst hq
    exact ⟨u, c0, c1, c2, c3, c4, c5, hk⟩
  | i + 1 => simp at hq
theorem box_two {w : World} {n : Nat} {p : PatN (n + 1)} {fr to : Int} {u : Value} {o : Obj} (hf : from_ p = fr) (ht : to_ p = to) : BoxAt ((w.alloc o).alloc (.cells #[.int .i64 (kind p), .int .i64 fr, .int .i64 to, .int .i64 (min_ p), .int .i64 (max_ p), u] 70)) (w.heap.size + 1) (.int .i64 (kind p)) (.int .i64 (from_ p)) (.int .i64 (to_ p)) (.int .i64 (min_ p)) (.int .i64 (max_ p)) u := by
  subst hf ht
  exact heap_alloc2_new w _ _
def rangeW {n : Nat} (p : PatN (n + 1)) : List Int := if from_ p = to_ p then byteW signsS (from_ p) else if from_ p = 0 ∧ to_ p = 255 then [46] else classW [p]
set_option linter.unusedSimpArgs false in
set_option maxRecDepth 100000 in
set_option maxHeartbeats 4000000 in
theorem writeRange_is (S : Nat → Prop) (n : Nat) (p : PatN (n + 1)) (vk : Value) (base : Nat) (w : World) (v : Value) (xs : List Int) (ho : OutAt w base v xs) (hb : base ≤ w.heap.size) (hl : xs.length ≤ 700000000) (hk : KidsAt S w n (kids p) vk) (hS : ∀ d, S d → v.ownBlock ≠ some d) (hf : printedP (from_ p) = true) (ht : printedP (to_ p) = true) :
    Calls Tryz.prog 63 #[v, valOf p vk] w fun r w' => WGives base w v (xs ++ rangeW p) r w' := by
  obtain ⟨a, cap, rfl⟩ := ho.form
  have HO := hide1 ho
  have HOL := hide1 (fun d e => (ho.lt d e).2)
  have HK := hide1 hk
  obtain ⟨ak, ck, rfl⟩ := hk.form
  rw [valOf_eq]
  have hf1 : 32 ≤ from_ p ∧ from_ p ≤ 126 := by have := hf; unfold printedP at this; simpa using this
  have hf2 : 32 ≤ to_ p ∧ to_ p ≤ 126 := by have := ht; unfold printedP at this; simpa using this
  have HF := hide1 hf
  have HT := hide1 ht
  have HR : Hid (rangeW p = if from_ p = to_ p then byteW signsS (from_ p) else if from_ p = 0 ∧ to_ p = 255 then [46] else classW [p]) := rfl
  have HS := hide1 hS
  clear ho hf ht hS
  go_enter Tryz.func63, Tryz.ntmps63
  obtain ⟨fr, hfr⟩ : ∃ x, from_ p = x := ⟨_, rfl⟩
  obtain ⟨to, hto⟩ : ∃ x, to_ p = x := ⟨_, rfl⟩
  have HFR := hide1 hfr
  have HTO := hide1 hto
  rw [hfr] at hf1 HF HR ⊢
  rw [hto] at hf2 HT HR ⊢
  clear hfr hto
  by_cases he : fr = to
  · rw [HR.out, if_pos he]
    subst he
    obtain ⟨zs, hzs⟩ : ∃ zs, xs ++ byteW signsS fr = zs := ⟨_, rfl⟩
    have HZS := hide1 hzs
    rw [hzs]
    clear hzs
    go_wp2_with (first
      | (go_at_call 81; refine (writeByte_is base _ _ xs _ signsS (HO.out.keep ((Kept.refl _).alloc _ _)) (by simp; omega) (by omega) HF.out).mono ?_; rintro r w7 ⟨v7, rfl, ho7, hg7, hw7⟩; rw [HZS.out] at ho7; obtain ⟨a7, c7, e7⟩ := ho7.form; subst e7; have HO7 := hide1 ho7; have HG7 := hide1 (grown_pre ((Kept.refl _).alloc _ _) hg7); have HW7 := hide1 (hw7.pre ((Kept.refl w).alloc _ _).size); clear ho7 hg7 hw7))
    go_ret
    exact ⟨_, rfl, HO7.out, HG7.out, HW7.out⟩
  · have h0 : ¬ (fr = 0 ∧ to = 255) := by omega
    rw [HR.out, if_neg he, if_neg h0]
    obtain ⟨zs, hzs⟩ : ∃ zs, xs ++ classW [p] = zs := ⟨_, rfl⟩
    have HZS := hide1 hzs
    rw [hzs]
    clear hzs
    go_wp2_with (first
      | (go_at_call 67; refine (writeClass_is (fun d => S d ∧ d < w.heap.size ∨ d = w.heap.size + 1) n [p] _ base _ _ xs (HO.out.keep (((Kept.refl _).alloc _ _).alloc _ _)) (by simp; omega) (by simp; omega) (kids_single (box_two HFR.out HTO.out) (KidsAt.mono ((((Kept.refl w).alloc _ _).alloc _ _).holds _) (fun d h => Or.inl h) _ _ _ HK.out.tight) (Or.inr rfl)) (fun d hd e => by rcases hd with hd | hd; exact HS.out d hd.1 e; (have := HOL.out d e; omega)) (fun q hq => by rw [List.mem_singleton] at hq; subst hq; rw [HFR.out, HTO.out]; exact ⟨HF.out, HT.out⟩)).mono ?_; rintro r w7 ⟨v7, rfl, ho7, hg7, hw7⟩; rw [HZS.out] at ho7; obtain ⟨a7, c7, e7⟩ := ho7.form; subst e7; have HO7 := hide1 ho7; have HG7 := hide1 (grown_pre (((Kept.refl _).alloc _ _).alloc _ _) hg7); have HW7 := hide1 (hw7.pre (((Kept.refl w).alloc _ _).alloc _ _).size); clear ho7 hg7 hw7))
    go_ret
    exact ⟨_, rfl, HO7.out, HG7.out, HW7.out⟩

end Ex
end Go.Proofs.YtbnchnlogikecaaGreatDoor
