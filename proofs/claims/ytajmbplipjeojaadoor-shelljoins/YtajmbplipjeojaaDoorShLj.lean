import Derived.Test.YtajmbplipjeojaaDoorShU3
import Derived.Test.YtajmbplipjeojaaDoorShV
import Derived.Test.YtajmbplipjeojaaDoorShAr
import Derived.Lib.SlBytesConst
namespace Go.Proofs.YtajmbplipjeojaaDoor
open Go.RowKit
attribute [local go_sem] Oper.semAt_some
namespace Ex
namespace Sh

/-- Words, quoted, a blank ahead of each. -/
def joinL (Bs : List (List Int)) : List Int := Bs.flatMap fun b => 32 :: quoL (b.take 4000)
theorem strN_add (a b : ByteArray) : strN (a ++ b) = strN a ++ strN b := by
  simp [strN]
theorem join_take {Bs : List (List Int)} {i : Nat} {b : List Int} (h : Bs[i]? = some b) : joinL (Bs.take (i + 1)) = joinL (Bs.take i) ++ (32 :: quoL (b.take 4000)) := by
  obtain ⟨h1, h2⟩ := List.getElem?_eq_some_iff.1 h
  unfold joinL
  rw [List.take_succ_eq_append_getElem h1, h2, List.flatMap_append]
  simp
theorem join_first (Bs : List (List Int)) (r : List Int) (hr : ∀ c, r[0]? = some c → blank c = true) : ∀ c, (joinL Bs ++ r)[0]? = some c → blank c = true := by
  intro c hc
  cases Bs with
  | nil => exact hr c hc
  | cons b Bs =>
    have : c = 32 := by simpa [joinL] using hc.symm
    subst this
    rfl
theorem join_read (Bs : List (List Int)) (hb : ∀ b ∈ Bs, ∀ x ∈ b, 0 ≤ x ∧ x < 256) (r : List Int) (hr : ∀ c, r[0]? = some c → blank c = true) : ∀ (ws : List ByteArray) (dg : Int), ∃ dg', fin (runS (start ws dg) (joinL Bs ++ r)) = fin (runS (start (ws ++ Bs.map fun b => bs (b.take 4000)) dg') r) := by
  induction Bs with
  | nil => intro ws dg; exact ⟨dg, by simp [joinL]⟩
  | cons b Bs ih =>
    intro ws dg
    have e : joinL (b :: Bs) ++ r = 32 :: (quoL (b.take 4000) ++ (joinL Bs ++ r)) := by
      simp [joinL]
    obtain ⟨dg1, h1⟩ := quoL_read (b.take 4000) (joinL Bs ++ r) (fun x hx => hb b (List.mem_cons_self ..) x (List.mem_of_mem_take hx)) (join_first Bs r hr) ws dg
    obtain ⟨dg2, h2⟩ := ih (fun b' hb' => hb b' (List.mem_cons_of_mem _ hb')) (ws ++ [bs (b.take 4000)]) dg1
    refine ⟨dg2, ?_⟩
    rw [e, blank_skip 32 rfl, h1, h2]
    simp
theorem join_words (Bs : List (List Int)) (hb : ∀ b ∈ Bs, ∀ x ∈ b, 0 ≤ x ∧ x < 256) (t : List Int) : wordsO (joinL Bs ++ ([9, 35] ++ t)) = some (Bs.map fun b => bs (b.take 4000)) := by
  obtain ⟨dg, h⟩ := join_read Bs hb ([9, 35] ++ t) (fun c hc => by
    have : c = 9 := by simpa using hc.symm
    subst this
    rfl) [] 0
  rw [wordsO, h]
  show fin (runS _ (9 :: 35 :: t)) = _
  rw [blank_skip 9 rfl, comment_fin]
  simp
theorem src_takeJ {w : World} {a : Option Addr} {l : List Int} {k : Nat} (h : Src u8E w a l) : Src u8E w a (l.take k) := by
  rcases h with rfl | ⟨g, o, h1, h2⟩
  · exact .inl (by simp)
  · refine .inr ⟨g, o, h1, fun j u hj => h2 j u ?_⟩
    rw [flat_u8b, List.getElem?_map] at hj ⊢
    rw [List.getElem?_take] at hj
    split at hj
    · exact hj
    · cases hj
theorem bytes_srcJ {w : World} {a : Option Addr} {n c : Nat} {bs : List Int} (h : BytesArg w (.slice a n c) bs) : bs.length = n ∧ n ≤ c ∧ n ≤ 200000000000000 ∧ Src u8E w a bs ∧ ∀ x ∈ bs, 0 ≤ x ∧ x < 256 := by
  obtain ⟨a', c', e, h1, h2, h3, h4⟩ := h
  simp only [Value.slice.injEq] at e
  obtain ⟨rfl, rfl, rfl⟩ := e
  refine ⟨rfl, h1, h2, ?_, fun x hx => by have := h3 x hx; unfold IsB at this; omega⟩
  rcases h4 with h4 | ⟨g, o, rfl, _, h5⟩
  · exact .inl h4
  · refine .inr ⟨g, o, rfl, fun j u hj => ?_⟩
    rw [flat_u8b, List.getElem?_map] at hj
    obtain ⟨x, hx, rfl⟩ := Option.map_eq_some_iff.1 hj
    exact h5 j x hx
/-- One word of the list that came in. -/
theorem row_at {w : World} {a : Option Addr} {N C : Nat} {Bs : List (List Int)} (h : RowsIn w (.slice a N C) Bs) {i : Nat} {b : List Int} (hb : Bs[i]? = some b) : ∃ g o a2 n2 c2, a = some ⟨g, o, none⟩ ∧ w.cell? ⟨g, o + i, none⟩ = some (.slice a2 n2 c2) ∧ b.length = n2 ∧ n2 ≤ c2 ∧ n2 ≤ 200000000000000 ∧ Src u8E w a2 b ∧ ∀ x ∈ b, 0 ≤ x ∧ x < 256 := by
  obtain ⟨a', cap, e, _, _, h4⟩ := h
  simp only [Value.slice.injEq] at e
  obtain ⟨rfl, _, _⟩ := e
  rcases h4 with rfl | ⟨g, o, rfl, _, h5⟩
  · cases hb
  · obtain ⟨v', h6, h7⟩ := h5 i b hb
    have h70 := h7
    obtain ⟨a2, c2, e2, _⟩ := h7
    have h8 : BytesArg w (.slice a2 b.length c2) b := by rw [← e2]; exact h70
    obtain ⟨q1, q2, q3, q4, q5⟩ := bytes_srcJ h8
    exact ⟨g, o, a2, b.length, c2, rfl, by rw [h6, e2], rfl, q2, q3, q4, q5⟩
theorem rows_len {w : World} {a : Option Addr} {N C : Nat} {Bs : List (List Int)} (h : RowsIn w (.slice a N C) Bs) : Bs.length = N ∧ N ≤ C ∧ N ≤ 17592186044416 := by
  obtain ⟨a', cap, e, h1, h2, _⟩ := h
  simp only [Value.slice.injEq] at e
  obtain ⟨rfl, rfl, rfl⟩ := e
  exact ⟨rfl, h1, h2⟩
theorem kept_alloc (w : World) (o : Obj) : Kept w (w.alloc o) := Kept.of ((Below.refl _ w).alloc (Nat.le_refl _) _)
theorem src_mark (w : World) (x : Int) : Src u8E (w.alloc (.cells #[.int .u8 x] 5 (1, 2))) (some ⟨w.heap.size, 0, none⟩) [x] := by
  have hh : (w.alloc (.cells #[.int .u8 x] 5 (1, 2))).heap[w.heap.size]? = some (.cells #[.int .u8 x] 5 (1, 2)) := heap_alloc_new w _
  refine .inr ⟨_, 0, rfl, fun j u hj => ?_⟩
  match j with
  | 0 => simp [flatE, u8E, encU8] at hj; subst hj; unfold World.cell?; rw [hh]; rfl
  | j + 1 => simp [flatE, u8E, encU8] at hj
theorem quo_x : bs (quoL [120]) = ⟨#[34, 120, 34]⟩ := by decide +kernel
set_option linter.unusedSimpArgs false in
set_option maxRecDepth 100000 in
set_option maxHeartbeats 4000000 in
theorem lawJoins (a : Option Addr) (N C : Nat) (Bs : List (List Int)) (cm : ByteArray) (w : World) (hE : EsAt w) (hR : RowsIn w (.slice a N C) Bs) (hcm : cm.size ≤ 281474976710656) :
    Calls Tryd.prog 3 #[.slice a N C, .string cm] w fun e w' => e = .returned (.bool true) ∧ Kept w w' := by
  have HE := hide1 hE
  obtain ⟨hl, hNC, hN⟩ := rows_len hR
  have HL := hide1 hl
  have HAT : Hid (∀ (i : Nat) (b : List Int), Bs[i]? = some b → ∃ g o a2 n2 c2, a = some ⟨g, o, none⟩ ∧ w.cell? ⟨g, o + i, none⟩ = some (.slice a2 n2 c2) ∧ b.length = n2 ∧ n2 ≤ c2 ∧ n2 ≤ 200000000000000 ∧ Src u8E w a2 b ∧ ∀ x ∈ b, 0 ≤ x ∧ x < 256) := fun i b hb => row_at hR hb
  have HBB : Hid (∀ b ∈ Bs, ∀ x ∈ b, 0 ≤ x ∧ x < 256) := fun b hb x hx => by
    obtain ⟨i, hi, e⟩ := List.getElem_of_mem hb
    obtain ⟨_, _, _, _, _, _, _, _, _, _, _, h⟩ := row_at hR (i := i) (b := b) (by rw [← e]; exact List.getElem?_eq_getElem hi)
    exact h x hx
  have hNI : (N : Int) ≤ 17592186044416 := by omega
  have hNCI : (N : Int) ≤ (C : Int) := by omega
  clear hE hR hl
  go_enter Tryd.func3, Tryd.ntmps3
  go_wp2_with fail
  go_loopw [5, 6, 7] (fun s n i wr => ∃ (j : Nat) (ln : ByteArray), s = .string ln ∧ n = .int .i64 (j : Int) ∧ i = .int .i64 (j : Int) ∧ j ≤ N ∧ ln.size ≤ 36003 ∧ Hid (strN ln = joinL (Bs.take j)) ∧ Hid (Kept w wr)) (fun _ _ i _ => N - (intOf i).toNat)
  case atStart => exact ⟨0, ⟨#[]⟩, rfl, rfl, rfl, Nat.zero_le _, by decide, rfl, Kept.refl w⟩
  case round =>
    obtain ⟨j, ln, rfl, rfl, rfl, hj, hls, HLN, HKr⟩ := hrel
    have hlsI : (ln.size : Int) ≤ 36003 := by omega
    by_cases hlt : j < N ∧ ln.size < 20000
    · obtain ⟨hlt1, hlt2⟩ := hlt
      have hltI : (j : Int) < (N : Int) := by omega
      have hlt2I : (ln.size : Int) < 20000 := by omega
      have hjC : (j : Int) < (C : Int) := by omega
      obtain ⟨b, hb⟩ : ∃ b, Bs[j]? = some b := ⟨_, List.getElem?_eq_getElem (by have := HL.out; omega)⟩
      obtain ⟨g, o, a2, n2, c2, ea, k1, q1, q2, q3, q4, q5⟩ := HAT.out j b hb
      have HJT := hide1 (join_take hb)
      subst ea
      have k2 := grown_cell HKr.out k1
      have q2I : (n2 : Int) ≤ (c2 : Int) := by omega
      have q3I : (n2 : Int) ≤ 200000000000000 := by omega
      have HQ1 := hide1 q1
      have HQ5 := hide1 q5
      have HQ4 := hide1 (q4.keep HKr.out)
      clear k1 hb q1 q5 q4
      by_cases hbig : (4000 : Int) < (n2 : Int)
      · have HQ := hide1 (quote_is a2 4000 c2 (b.take 4000) wr (by rw [List.length_take, HQ1.out]; omega) (by omega) (src_takeJ HQ4.out) (fun x hx => HQ5.out x (List.mem_of_mem_take hx)) (by omega))
        obtain ⟨S, hS⟩ : ∃ S, bs (quoL (b.take 4000)) = S := ⟨_, rfl⟩
        rw [hS] at HQ
        have HS : Hid (strN S = quoL (b.take 4000)) := by show _ = _; rw [← hS]; exact strN_bs _ (quoL_byte (fun x hx => HQ5.out x (List.mem_of_mem_take hx)))
        have hSZ : S.size ≤ 16002 := by rw [← hS, bs_len]; have := quoL_len (b.take 4000); rw [List.length_take] at this; omega
        clear hS
        go_wp2_with (go_at_call 7; refine (HQ.out).mono ?_; rintro e w6 ⟨rfl, hk6⟩; have HK6 := hide1 hk6; clear hk6)
        go_roundw
        case rel =>
          refine ⟨j + 1, ln ++ ⟨#[32]⟩ ++ S, rfl, by go_num, by go_num, by omega, ?_, ?_, gtrans HKr.out HK6.out⟩
          · rw [ByteArray.size_append, ByteArray.size_append]
            show ln.size + 1 + S.size ≤ 36003
            omega
          · show strN (ln ++ ⟨#[32]⟩ ++ S) = _
            rw [HJT.out, strN_add, strN_add, HLN.out, HS.out, List.append_assoc]
            rfl
        case measure => simp [intOf]; omega
      · have HQ := hide1 (quote_is a2 n2 c2 (b.take 4000) wr (by rw [List.length_take, HQ1.out]; omega) (by omega) (src_takeJ HQ4.out) (fun x hx => HQ5.out x (List.mem_of_mem_take hx)) (by omega))
        obtain ⟨S, hS⟩ : ∃ S, bs (quoL (b.take 4000)) = S := ⟨_, rfl⟩
        rw [hS] at HQ
        have HS : Hid (strN S = quoL (b.take 4000)) := by show _ = _; rw [← hS]; exact strN_bs _ (quoL_byte (fun x hx => HQ5.out x (List.mem_of_mem_take hx)))
        have hSZ : S.size ≤ 16002 := by rw [← hS, bs_len]; have := quoL_len (b.take 4000); rw [List.length_take] at this; omega
        clear hS
        go_wp2_with (go_at_call 7; refine (HQ.out).mono ?_; rintro e w6 ⟨rfl, hk6⟩; have HK6 := hide1 hk6; clear hk6)
        go_roundw
        case rel =>
          refine ⟨j + 1, ln ++ ⟨#[32]⟩ ++ S, rfl, by go_num, by go_num, by omega, ?_, ?_, gtrans HKr.out HK6.out⟩
          · rw [ByteArray.size_append, ByteArray.size_append]
            show ln.size + 1 + S.size ≤ 36003
            omega
          · show strN (ln ++ ⟨#[32]⟩ ++ S) = _
            rw [HJT.out, strN_add, strN_add, HLN.out, HS.out, List.append_assoc]
            rfl
        case measure => simp [intOf]; omega
    · have hng : ¬ ((j : Int) < (N : Int) ∧ (ln.size : Int) < 20000) := by omega
      have HLT : Hid (∀ b ∈ Bs.take j, ∀ x ∈ b, 0 ≤ x ∧ x < 256) := fun b hb => HBB.out b (List.mem_of_mem_take hb)
      obtain ⟨cm2, hcm2⟩ : ∃ cm2 : ByteArray, (if 1000 < cm.size then cm.extract 0 1000 else cm) = cm2 := ⟨_, rfl⟩
      have hcs : cm2.size ≤ 1000 := by
        rw [← hcm2]
        split
        · simp
          omega
        · omega
      obtain ⟨T, hT⟩ : ∃ T, ln ++ ⟨#[9, 35]⟩ ++ cm2 = T := ⟨_, rfl⟩
      have hTZ : T.size ≤ 37005 := by
        rw [← hT, ByteArray.size_append, ByteArray.size_append]
        show ln.size + 2 + cm2.size ≤ _
        omega
      have HTW : Hid (wordsO (strN T) = some ((Bs.take j).map fun b => bs (b.take 4000))) := by
        show _ = _
        rw [← hT, strN_add, strN_add, HLN.out, List.append_assoc]
        exact join_words _ HLT.out _
      obtain ⟨ans, hans⟩ : ∃ ans, (Bs.take j).map (fun b => bs (b.take 4000)) = ans := ⟨_, rfl⟩
      have HAN := hide1 hans
      rw [hans] at HTW
      have HAL : Hid (ansL T = ans) := by show _ = _; unfold ansL; rw [if_neg (by omega), HTW.out]; rfl
      have HAE : Hid (ansE T = 0) := by show _ = _; unfold ansE; rw [if_neg (by omega), HTW.out]; rfl
      have HAS : Hid (ans.length = j) := by show _ = _; rw [← hans, List.length_map, List.length_take, HL.out]; omega
      have HW : Hid (Calls Tryd.prog 8 #[.string T] wr fun e w' => ∃ a8 c8, e = .returned (.tuple #[.slice a8 j c8, .int .i64 0]) ∧ j ≤ c8 ∧ Src strE w' a8 ans ∧ Kept wr w') :=
        (words_is T wr (HE.out.keep HKr.out) (by omega)).mono fun e w' h => by
          obtain ⟨v, h1, h2, _, h4⟩ := wordsQ_of h
          rw [HAL.out, HAS.out] at h2
          rw [HAE.out] at h1
          obtain ⟨a8, c8, rfl, _, hc, h5⟩ := h2
          exact ⟨a8, c8, h1, hc, h5, h4⟩
      clear hans
      have HT := hide1 hT
      have HC2 := hide1 hcm2
      clear hT hcm2
      have hjj : ((j : Int) != (j : Int)) = false := by simp
      have hcmI : (cm.size : Int) ≤ 281474976710656 := by omega
      by_cases hcb : (1000 : Int) < (cm.size : Int)
      · have HWW := HW
        have e2 : cm2 = cm.extract 0 1000 := by rw [← HC2.out, if_pos (by omega)]
        rw [← HT.out, e2] at HWW
        have hes : (cm.extract 0 1000).size = 1000 := by simp; omega
        clear e2
        by_cases hlt1 : (j : Int) < (N : Int)
        · have hlt2' : ¬ (ln.size : Int) < 20000 := by omega
          go_wp2_with (go_at_call 8; refine (HWW.out).mono ?_; rintro e w6 ⟨a8, c8, rfl, hc8, hs8, hk6⟩; have HK6 := hide1 hk6; have HS8 := hide1 hs8; clear hk6 hs8)
          go_loopw [11] (fun i wr => ∃ k : Nat, i = .int .i64 (k : Int) ∧ k ≤ j ∧ Hid (Kept w6 wr)) (fun i _ => j - (intOf i).toNat)
          case atStart => exact ⟨0, rfl, Nat.zero_le _, Kept.refl _⟩
          case round =>
            obtain ⟨k, rfl, hk, HK7⟩ := hrel
            have HKW := hide1 (gtrans HKr.out (gtrans HK6.out HK7.out))
            by_cases hlt2 : (k : Int) < (j : Int)
            · obtain ⟨b, hb⟩ : ∃ b, Bs[k]? = some b := ⟨_, List.getElem?_eq_getElem (by have := HL.out; omega)⟩
              obtain ⟨g, o, a2, n2, c2, ea, k1, q1, q2, q3, q4, q5⟩ := HAT.out k b hb
              have hx : ans[k]? = some (bs (b.take 4000)) := by
                rw [← HAN.out, List.getElem?_map, List.getElem?_take, if_pos (by omega), hb]
                rfl
              obtain ⟨g8, o8, ea8, k8⟩ := src_at (HS8.out.keep HK7.out) hx
              subst ea ea8
              have k2 := grown_cell HKW.out k1
              have q2I : (n2 : Int) ≤ (c2 : Int) := by omega
              have q3I : (n2 : Int) ≤ 200000000000000 := by omega
              have hkC : (k : Int) < (C : Int) := by omega
              have hk8I : (k : Int) < (c8 : Int) := by omega
              obtain ⟨S, hS⟩ : ∃ S, bs (b.take 4000) = S := ⟨_, rfl⟩
              rw [hS] at k8
              have HQ4 := hide1 (q4.keep HKW.out)
              by_cases hbig : (4000 : Int) < (n2 : Int)
              · have hcv : ∀ m, (convert 23 9 (.slice a2 4000 c2)).run Tryd.prog (wr.drewN m) = .ok (.string S) (wr.drewN m) := fun m => by rw [← hS, ← strD_bs]; exact src_conv ((src_takeJ HQ4.out).keep (drewN_kept _ _)) (by rw [List.length_take, q1]; omega)
                have HKN := hide1 HK7.out
                clear hb hx q1 q4 q5 hS k1
                go_upto_region 22 with fail
                go_quiet (fail)
                go_wp2_with fail
                go_roundw
                case rel => exact ⟨k + 1, by go_num, by omega, gtrans HKN.out (drewN_kept _ _)⟩
                case measure => simp [intOf]; omega
              · have hcv : ∀ m, (convert 23 9 (.slice a2 n2 c2)).run Tryd.prog (wr.drewN m) = .ok (.string S) (wr.drewN m) := fun m => by rw [← hS, ← strD_bs]; exact src_conv ((src_takeJ HQ4.out).keep (drewN_kept _ _)) (by rw [List.length_take, q1]; omega)
                have HKN := hide1 HK7.out
                clear hb hx q1 q4 q5 hS k1
                go_upto_region 22 with fail
                go_quiet (fail)
                go_wp2_with fail
                go_roundw
                case rel => exact ⟨k + 1, by go_num, by omega, gtrans HKN.out (drewN_kept _ _)⟩
                case measure => simp [intOf]; omega
            · have hcc := Lib.run_convert_bytes_const (P := Tryd.prog) wr 23 5 #[.int .u8 120] 1 1 Tryd.underlying23 Tryd.underlying5
              have HQX := hide1 (quote_is (some ⟨wr.heap.size, 0, none⟩) 1 1 [120] (wr.alloc (.cells #[.int .u8 120] 5 (1, 2))) rfl (Nat.le_refl _) (src_mark wr 120) (fun x hx => by simp only [List.mem_singleton] at hx; subst hx; decide) (by omega))
              rw [quo_x] at HQX
              go_wp2_with (go_at_call 7; refine (HQX.out).mono ?_; rintro e w9 ⟨rfl, hk9⟩; have HK9 := hide1 hk9; clear hk9)
              go_ret
              exact ⟨rfl, gtrans HKW.out (gtrans (kept_alloc _ _) HK9.out)⟩
        · go_wp2_with (go_at_call 8; refine (HWW.out).mono ?_; rintro e w6 ⟨a8, c8, rfl, hc8, hs8, hk6⟩; have HK6 := hide1 hk6; have HS8 := hide1 hs8; clear hk6 hs8)
          go_loopw [11] (fun i wr => ∃ k : Nat, i = .int .i64 (k : Int) ∧ k ≤ j ∧ Hid (Kept w6 wr)) (fun i _ => j - (intOf i).toNat)
          case atStart => exact ⟨0, rfl, Nat.zero_le _, Kept.refl _⟩
          case round =>
            obtain ⟨k, rfl, hk, HK7⟩ := hrel
            have HKW := hide1 (gtrans HKr.out (gtrans HK6.out HK7.out))
            by_cases hlt2 : (k : Int) < (j : Int)
            · obtain ⟨b, hb⟩ : ∃ b, Bs[k]? = some b := ⟨_, List.getElem?_eq_getElem (by have := HL.out; omega)⟩
              obtain ⟨g, o, a2, n2, c2, ea, k1, q1, q2, q3, q4, q5⟩ := HAT.out k b hb
              have hx : ans[k]? = some (bs (b.take 4000)) := by
                rw [← HAN.out, List.getElem?_map, List.getElem?_take, if_pos (by omega), hb]
                rfl
              obtain ⟨g8, o8, ea8, k8⟩ := src_at (HS8.out.keep HK7.out) hx
              subst ea ea8
              have k2 := grown_cell HKW.out k1
              have q2I : (n2 : Int) ≤ (c2 : Int) := by omega
              have q3I : (n2 : Int) ≤ 200000000000000 := by omega
              have hkC : (k : Int) < (C : Int) := by omega
              have hk8I : (k : Int) < (c8 : Int) := by omega
              obtain ⟨S, hS⟩ : ∃ S, bs (b.take 4000) = S := ⟨_, rfl⟩
              rw [hS] at k8
              have HQ4 := hide1 (q4.keep HKW.out)
              by_cases hbig : (4000 : Int) < (n2 : Int)
              · have hcv : ∀ m, (convert 23 9 (.slice a2 4000 c2)).run Tryd.prog (wr.drewN m) = .ok (.string S) (wr.drewN m) := fun m => by rw [← hS, ← strD_bs]; exact src_conv ((src_takeJ HQ4.out).keep (drewN_kept _ _)) (by rw [List.length_take, q1]; omega)
                have HKN := hide1 HK7.out
                clear hb hx q1 q4 q5 hS k1
                go_upto_region 22 with fail
                go_quiet (fail)
                go_wp2_with fail
                go_roundw
                case rel => exact ⟨k + 1, by go_num, by omega, gtrans HKN.out (drewN_kept _ _)⟩
                case measure => simp [intOf]; omega
              · have hcv : ∀ m, (convert 23 9 (.slice a2 n2 c2)).run Tryd.prog (wr.drewN m) = .ok (.string S) (wr.drewN m) := fun m => by rw [← hS, ← strD_bs]; exact src_conv ((src_takeJ HQ4.out).keep (drewN_kept _ _)) (by rw [List.length_take, q1]; omega)
                have HKN := hide1 HK7.out
                clear hb hx q1 q4 q5 hS k1
                go_upto_region 22 with fail
                go_quiet (fail)
                go_wp2_with fail
                go_roundw
                case rel => exact ⟨k + 1, by go_num, by omega, gtrans HKN.out (drewN_kept _ _)⟩
                case measure => simp [intOf]; omega
            · have hcc := Lib.run_convert_bytes_const (P := Tryd.prog) wr 23 5 #[.int .u8 120] 1 1 Tryd.underlying23 Tryd.underlying5
              have HQX := hide1 (quote_is (some ⟨wr.heap.size, 0, none⟩) 1 1 [120] (wr.alloc (.cells #[.int .u8 120] 5 (1, 2))) rfl (Nat.le_refl _) (src_mark wr 120) (fun x hx => by simp only [List.mem_singleton] at hx; subst hx; decide) (by omega))
              rw [quo_x] at HQX
              go_wp2_with (go_at_call 7; refine (HQX.out).mono ?_; rintro e w9 ⟨rfl, hk9⟩; have HK9 := hide1 hk9; clear hk9)
              go_ret
              exact ⟨rfl, gtrans HKW.out (gtrans (kept_alloc _ _) HK9.out)⟩
      · have HWW := HW
        have e2 : cm2 = cm := by rw [← HC2.out, if_neg (by omega)]
        rw [← HT.out, e2] at HWW
        clear e2
        by_cases hlt1 : (j : Int) < (N : Int)
        · have hlt2' : ¬ (ln.size : Int) < 20000 := by omega
          go_wp2_with (go_at_call 8; refine (HWW.out).mono ?_; rintro e w6 ⟨a8, c8, rfl, hc8, hs8, hk6⟩; have HK6 := hide1 hk6; have HS8 := hide1 hs8; clear hk6 hs8)
          go_loopw [11] (fun i wr => ∃ k : Nat, i = .int .i64 (k : Int) ∧ k ≤ j ∧ Hid (Kept w6 wr)) (fun i _ => j - (intOf i).toNat)
          case atStart => exact ⟨0, rfl, Nat.zero_le _, Kept.refl _⟩
          case round =>
            obtain ⟨k, rfl, hk, HK7⟩ := hrel
            have HKW := hide1 (gtrans HKr.out (gtrans HK6.out HK7.out))
            by_cases hlt2 : (k : Int) < (j : Int)
            · obtain ⟨b, hb⟩ : ∃ b, Bs[k]? = some b := ⟨_, List.getElem?_eq_getElem (by have := HL.out; omega)⟩
              obtain ⟨g, o, a2, n2, c2, ea, k1, q1, q2, q3, q4, q5⟩ := HAT.out k b hb
              have hx : ans[k]? = some (bs (b.take 4000)) := by
                rw [← HAN.out, List.getElem?_map, List.getElem?_take, if_pos (by omega), hb]
                rfl
              obtain ⟨g8, o8, ea8, k8⟩ := src_at (HS8.out.keep HK7.out) hx
              subst ea ea8
              have k2 := grown_cell HKW.out k1
              have q2I : (n2 : Int) ≤ (c2 : Int) := by omega
              have q3I : (n2 : Int) ≤ 200000000000000 := by omega
              have hkC : (k : Int) < (C : Int) := by omega
              have hk8I : (k : Int) < (c8 : Int) := by omega
              obtain ⟨S, hS⟩ : ∃ S, bs (b.take 4000) = S := ⟨_, rfl⟩
              rw [hS] at k8
              have HQ4 := hide1 (q4.keep HKW.out)
              by_cases hbig : (4000 : Int) < (n2 : Int)
              · have hcv : ∀ m, (convert 23 9 (.slice a2 4000 c2)).run Tryd.prog (wr.drewN m) = .ok (.string S) (wr.drewN m) := fun m => by rw [← hS, ← strD_bs]; exact src_conv ((src_takeJ HQ4.out).keep (drewN_kept _ _)) (by rw [List.length_take, q1]; omega)
                have HKN := hide1 HK7.out
                clear hb hx q1 q4 q5 hS k1
                go_upto_region 22 with fail
                go_quiet (fail)
                go_wp2_with fail
                go_roundw
                case rel => exact ⟨k + 1, by go_num, by omega, gtrans HKN.out (drewN_kept _ _)⟩
                case measure => simp [intOf]; omega
              · have hcv : ∀ m, (convert 23 9 (.slice a2 n2 c2)).run Tryd.prog (wr.drewN m) = .ok (.string S) (wr.drewN m) := fun m => by rw [← hS, ← strD_bs]; exact src_conv ((src_takeJ HQ4.out).keep (drewN_kept _ _)) (by rw [List.length_take, q1]; omega)
                have HKN := hide1 HK7.out
                clear hb hx q1 q4 q5 hS k1
                go_upto_region 22 with fail
                go_quiet (fail)
                go_wp2_with fail
                go_roundw
                case rel => exact ⟨k + 1, by go_num, by omega, gtrans HKN.out (drewN_kept _ _)⟩
                case measure => simp [intOf]; omega
            · have hcc := Lib.run_convert_bytes_const (P := Tryd.prog) wr 23 5 #[.int .u8 120] 1 1 Tryd.underlying23 Tryd.underlying5
              have HQX := hide1 (quote_is (some ⟨wr.heap.size, 0, none⟩) 1 1 [120] (wr.alloc (.cells #[.int .u8 120] 5 (1, 2))) rfl (Nat.le_refl _) (src_mark wr 120) (fun x hx => by simp only [List.mem_singleton] at hx; subst hx; decide) (by omega))
              rw [quo_x] at HQX
              go_wp2_with (go_at_call 7; refine (HQX.out).mono ?_; rintro e w9 ⟨rfl, hk9⟩; have HK9 := hide1 hk9; clear hk9)
              go_ret
              exact ⟨rfl, gtrans HKW.out (gtrans (kept_alloc _ _) HK9.out)⟩
        · go_wp2_with (go_at_call 8; refine (HWW.out).mono ?_; rintro e w6 ⟨a8, c8, rfl, hc8, hs8, hk6⟩; have HK6 := hide1 hk6; have HS8 := hide1 hs8; clear hk6 hs8)
          go_loopw [11] (fun i wr => ∃ k : Nat, i = .int .i64 (k : Int) ∧ k ≤ j ∧ Hid (Kept w6 wr)) (fun i _ => j - (intOf i).toNat)
          case atStart => exact ⟨0, rfl, Nat.zero_le _, Kept.refl _⟩
          case round =>
            obtain ⟨k, rfl, hk, HK7⟩ := hrel
            have HKW := hide1 (gtrans HKr.out (gtrans HK6.out HK7.out))
            by_cases hlt2 : (k : Int) < (j : Int)
            · obtain ⟨b, hb⟩ : ∃ b, Bs[k]? = some b := ⟨_, List.getElem?_eq_getElem (by have := HL.out; omega)⟩
              obtain ⟨g, o, a2, n2, c2, ea, k1, q1, q2, q3, q4, q5⟩ := HAT.out k b hb
              have hx : ans[k]? = some (bs (b.take 4000)) := by
                rw [← HAN.out, List.getElem?_map, List.getElem?_take, if_pos (by omega), hb]
                rfl
              obtain ⟨g8, o8, ea8, k8⟩ := src_at (HS8.out.keep HK7.out) hx
              subst ea ea8
              have k2 := grown_cell HKW.out k1
              have q2I : (n2 : Int) ≤ (c2 : Int) := by omega
              have q3I : (n2 : Int) ≤ 200000000000000 := by omega
              have hkC : (k : Int) < (C : Int) := by omega
              have hk8I : (k : Int) < (c8 : Int) := by omega
              obtain ⟨S, hS⟩ : ∃ S, bs (b.take 4000) = S := ⟨_, rfl⟩
              rw [hS] at k8
              have HQ4 := hide1 (q4.keep HKW.out)
              by_cases hbig : (4000 : Int) < (n2 : Int)
              · have hcv : ∀ m, (convert 23 9 (.slice a2 4000 c2)).run Tryd.prog (wr.drewN m) = .ok (.string S) (wr.drewN m) := fun m => by rw [← hS, ← strD_bs]; exact src_conv ((src_takeJ HQ4.out).keep (drewN_kept _ _)) (by rw [List.length_take, q1]; omega)
                have HKN := hide1 HK7.out
                clear hb hx q1 q4 q5 hS k1
                go_upto_region 22 with fail
                go_quiet (fail)
                go_wp2_with fail
                go_roundw
                case rel => exact ⟨k + 1, by go_num, by omega, gtrans HKN.out (drewN_kept _ _)⟩
                case measure => simp [intOf]; omega
              · have hcv : ∀ m, (convert 23 9 (.slice a2 n2 c2)).run Tryd.prog (wr.drewN m) = .ok (.string S) (wr.drewN m) := fun m => by rw [← hS, ← strD_bs]; exact src_conv ((src_takeJ HQ4.out).keep (drewN_kept _ _)) (by rw [List.length_take, q1]; omega)
                have HKN := hide1 HK7.out
                clear hb hx q1 q4 q5 hS k1
                go_upto_region 22 with fail
                go_quiet (fail)
                go_wp2_with fail
                go_roundw
                case rel => exact ⟨k + 1, by go_num, by omega, gtrans HKN.out (drewN_kept _ _)⟩
                case measure => simp [intOf]; omega
            · have hcc := Lib.run_convert_bytes_const (P := Tryd.prog) wr 23 5 #[.int .u8 120] 1 1 Tryd.underlying23 Tryd.underlying5
              have HQX := hide1 (quote_is (some ⟨wr.heap.size, 0, none⟩) 1 1 [120] (wr.alloc (.cells #[.int .u8 120] 5 (1, 2))) rfl (Nat.le_refl _) (src_mark wr 120) (fun x hx => by simp only [List.mem_singleton] at hx; subst hx; decide) (by omega))
              rw [quo_x] at HQX
              go_wp2_with (go_at_call 7; refine (HQX.out).mono ?_; rintro e w9 ⟨rfl, hk9⟩; have HK9 := hide1 hk9; clear hk9)
              go_ret
              exact ⟨rfl, gtrans HKW.out (gtrans (kept_alloc _ _) HK9.out)⟩

end Sh
end Ex
end Go.Proofs.YtajmbplipjeojaaDoor
