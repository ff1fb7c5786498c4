import Derived.Test.YtggodknnfpegmaaDoorMSpQa
import Derived.OwnWalk
namespace Go.Proofs.YtggodknnfpegmaaDoor
open Go.RowKit
attribute [local go_sem] Oper.semAt_some
namespace Ex

/-- The rows of a right side's symbols, one behind the other. -/
def catY (nl : Nat) (L : Nat → Option (List Int)) : List SymM → List Int
  | [] => []
  | y :: ys => (symY nl L y).getD [] ++ catY nl L ys
theorem cat_join {nl : Nat} {L : Nat → Option (List Int)} : ∀ (ys : List SymM) (acc : List Int), (∀ y ∈ ys, symY nl L y ≠ none) → acc.length ≤ 4096 → joinM nl L ys acc = if 4096 < (acc ++ catY nl L ys).length then none else some (acc ++ catY nl L ys)
  | [], acc, _, ha => by
    show some acc = if 4096 < (acc ++ []).length then none else some (acc ++ [])
    rw [List.append_nil, if_neg (by omega)]
  | y :: ys, acc, hy, ha => by
    cases hs : symY nl L y with
    | none => exact absurd hs (hy y List.mem_cons_self)
    | some a =>
      have e : catY nl L (y :: ys) = a ++ catY nl L ys := by show (symY nl L y).getD [] ++ _ = _; rw [hs]; rfl
      unfold joinM
      rw [hs]
      show (if 4096 < (acc ++ a).length then none else joinM nl L ys (acc ++ a)) = _
      rw [e, ← List.append_assoc]
      by_cases hl : 4096 < (acc ++ a).length
      · rw [if_pos hl, if_pos (by rw [List.length_append]; omega)]
      · rw [if_neg hl, cat_join ys (acc ++ a) (fun z hz => hy z (List.mem_cons_of_mem _ hz)) (by omega)]
theorem join_none {nl : Nat} {L : Nat → Option (List Int)} : ∀ (ys : List SymM) (acc : List Int), (∃ y ∈ ys, symY nl L y = none) → joinM nl L ys acc = none
  | [], _, h => by obtain ⟨y, hy, _⟩ := h; cases hy
  | y :: ys, acc, h => by
    unfold joinM
    cases hs : symY nl L y with
    | none => rfl
    | some a =>
      show (if 4096 < (acc ++ a).length then none else joinM nl L ys (acc ++ a)) = none
      by_cases hl : 4096 < (acc ++ a).length
      · rw [if_pos hl]
      · rw [if_neg hl]
        refine join_none ys _ ?_
        obtain ⟨z, hz, h2⟩ := h
        rcases List.mem_cons.1 hz with rfl | hz
        · rw [hs] at h2; cases h2
        · exact ⟨z, hz, h2⟩
theorem cat_snoc {nl : Nat} {L : Nat → Option (List Int)} {y : SymM} {a : List Int} (h : symY nl L y = some a) : ∀ ys : List SymM, catY nl L (ys ++ [y]) = catY nl L ys ++ a
  | [] => by show (symY nl L y).getD [] ++ [] = [] ++ a; rw [h]; simp
  | z :: ys => by show (symY nl L z).getD [] ++ catY nl L (ys ++ [y]) = ((symY nl L z).getD [] ++ catY nl L ys) ++ a; rw [cat_snoc h ys, List.append_assoc]
theorem cat_len {nl : Nat} {L : Nat → Option (List Int)} (hL : ∀ n r, L n = some r → r.length ≤ 4096) : ∀ ys : List SymM, (catY nl L ys).length ≤ 4096 * ys.length
  | [] => by simp [catY]
  | y :: ys => by
    have := cat_len (nl := nl) hL ys
    show ((symY nl L y).getD [] ++ catY nl L ys).length ≤ 4096 * (ys.length + 1)
    rw [List.length_append]
    have h2 : ((symY nl L y).getD []).length ≤ 4096 := by
      unfold symY
      split
      · cases h : L y.2.toNat with
        | none => simp
        | some r => exact hL _ r h
      · simp
    omega
/-- The rows of names in memory, as far as they are known. -/
structure YmS (nn gr gh B : Nat) (w : World) (vs : List Value) (ms : List Bool) (L : Nat → Option (List Int)) : Prop where
  vl : vs.length = nn
  ml : ms.length = nn
  rows : Blk w gr vs 41
  tab : TabB w gh ms
  known : ∀ (i : Nat) (x : Bool), ms[i]? = some x → (x = true ↔ L i ≠ none)
  own : ∀ (i : Nat) (v : Value) (r : List Int), vs[i]? = some v → L i = some r → IntsO w B v r
  form : ∀ (i : Nat) (v : Value), vs[i]? = some v → ∃ a n c, v = .slice a n c
  out : ∀ i, nn ≤ i → L i = none
  low : gr < B ∧ gh < B ∧ gr ≠ gh
  short : ∀ (n : Nat) (r : List Int), L n = some r → r.length ≤ 4096
theorem YmS.keep {nn gr gh B : Nat} {w w' : World} {vs : List Value} {ms : List Bool} {L : Nat → Option (List Int)} (h : YmS nn gr gh B w vs ms L) (hk : Kept w w') : YmS nn gr gh B w' vs ms L := ⟨h.vl, h.ml, h.rows.keep hk, h.tab.keep hk, h.known, fun i v r h1 h2 => (h.own i v r h1 h2).keep hk, h.form, h.out, h.low, h.short⟩
theorem intsE_low {w : World} {base b : Nat} {v : Value} {l : List Int} (h : IntsO w base v l) (hb : b ≤ base) : IntsO w b v l := by
  have h2 : w.ownsRow base 3 1 v l.length (flatS l) := h
  refine ⟨h2.1, ?_⟩
  rcases h2.2 with ⟨e, h0⟩ | ⟨g, cap, cur, e, hg0, rest⟩
  · exact .inl ⟨e, h0⟩
  · exact .inr ⟨g, cap, cur, e, Nat.le_trans hb hg0, rest⟩
def DjI (nl : Nat) (L : Nat → Option (List Int)) (row : List SymM) (W : World) (vl vi : Value) (wr : World) : Prop := ∃ (m n : Nat), vi = .int .i64 (m : Int) ∧ m ≤ row.length ∧ (∃ a c, vl = .slice a n c) ∧ Hid ((catY nl L (row.take m)).length = n) ∧ Hid (IntsO wr W.heap.size vl (catY nl L (row.take m))) ∧ Hid (Kept W wr)
/-- What joined answers. -/
def DjR (nl : Nat) (L : Nat → Option (List Int)) (row : List SymM) (w : World) (e : Ending) (w' : World) : Prop := ∃ (a : Option Addr) (n c : Nat), e = .returned (.tuple #[.slice a n c, .bool (decide (n ≤ 4096))]) ∧ (catY nl L row).length = n ∧ IntsO w' w.heap.size (.slice a n c) (catY nl L row) ∧ Kept w w'
set_option linter.unusedSimpArgs false in
set_option maxRecDepth 100000 in
set_option maxHeartbeats 8000000 in
theorem dJoined_is (k : Nat) (lex : List (LexM k)) (row : List SymM) (al ar : Option Addr) (nl cl nr cr nn gr gh B : Nat) (x1 x2 x3 : Value) (lf : Int) (vs : List Value) (ms : List Bool) (L : Nat → Option (List Int)) (w : World) (hnl : nl ≤ 64) (hnn : nn ≤ 128) (hlex : lex.length = nl) (hrow : row.length = nr) (hr16 : nr ≤ 16) (hr : RightAt w (.slice ar nr cr) row) (hok : ∀ x ∈ row, symErr lex nn x = 0) (hY : YmS nn gr gh B w vs ms L) (hk : ∀ x ∈ row, x.1 = 3 → L x.2.toNat ≠ none) :
    Calls Tryd.prog 59 #[.agg #[.slice al nl cl, x1, x2, x3], .agg #[.int .i64 lf, .slice ar nr cr], .slice (some ⟨gr, 0, none⟩) nn nn] w (DjR nl L row w) := by
  have HK1 : Hid (Kept w ((w.alloc (.cells #[.slice al nl cl, x1, x2, x3] 26)).alloc (.cells #[.int .i64 lf, .slice ar nr cr] 40))) := ((Kept.refl w).alloc _ _).alloc _ _
  have HB1 := hide1 ((SBox.new w (.slice al nl cl) x1 x2 x3).keep ((Kept.refl _).alloc #[.int .i64 lf, .slice ar nr cr] 40))
  have HPB := hide1 (PBox.new (w.alloc (.cells #[.slice al nl cl, x1, x2, x3] 26)) (.int .i64 lf) (.slice ar nr cr))
  rw [World.size_alloc] at HPB
  have HR := hide1 hr
  have HROW := hide1 hrow
  have HOK := hide1 hok
  have HLEN := hide1 hlex
  have HY := hide1 hY
  have HKN := hide1 hk
  obtain ⟨_, _, e1, hc, hn⟩ := hr.len
  simp only [Value.slice.injEq] at e1
  obtain ⟨rfl, en, rfl⟩ := e1
  clear en
  rw [hrow] at hc hn
  have gr16 : (nr : Int) ≤ 16 := by omega
  have gl : (nl : Int) ≤ 64 := by omega
  have gnn : (nn : Int) ≤ 128 := by omega
  clear hr hrow hok hlex hY hk
  go_enter Tryd.func59, Tryd.ntmps59
  go_upto_region 1 with fail
  obtain ⟨W, hW⟩ : ∃ W, (w.alloc (.cells #[.slice al nl cl, x1, x2, x3] 26)).alloc (.cells #[.int .i64 lf, .slice ar nr cr] 40) = W := ⟨_, rfl⟩
  rw [hW] at HK1 HB1 HPB ⊢
  clear hW
  obtain ⟨b, hb⟩ : ∃ b, w.heap.size = b := ⟨_, rfl⟩
  rw [hb] at HB1 HPB ⊢
  clear hb
  go_wp2_with fail
  go_loopw [8, 9] (DjI nl L row W) (fun _ i _ => nr - (intOf i).toNat)
  case atStart => exact ⟨0, 0, rfl, Nat.zero_le _, ⟨none, 0, rfl⟩, rfl, IntsO.nil _ _, Kept.refl W⟩
  case round =>
    obtain ⟨m, n, rfl, hm, ⟨a, c, rfl⟩, HNL, HO, HKr⟩ := hrel
    rw [HROW.out] at hm
    obtain ⟨p0, p1⟩ := (HPB.out.keep HKr.out).cells
    have HNB : Hid (n ≤ 65536) := by
      have h1 := cat_len HY.out.short (nl := nl) (row.take m)
      rw [HNL.out, List.length_take] at h1
      show _ ≤ _
      omega
    by_cases hlt : (m : Int) < (nr : Int)
    · obtain ⟨x, hx⟩ : ∃ x, row[m]? = some x := ⟨_, List.getElem?_eq_getElem (by have := HROW.out; omega)⟩
      obtain ⟨cr2, or2, cs2, ea2, hcb2, hlen2, hcell2, hcs2⟩ := SliceOf.el (HR.out.keep (gtrans HK1.out HKr.out)) hx
      have hcs2 : cs2 = [.int .i64 x.1, .int .i64 x.2] := hcs2
      subst ea2 hcs2
      have k0 : wr.cell? ⟨cr2, or2 + m * 2, none⟩ = some (.int .i64 x.1) := hcell2 0 _ rfl
      have k1 : wr.cell? ⟨cr2, or2 + m * 2 + 1, none⟩ = some (.int .i64 x.2) := hcell2 1 _ rfl
      have gmc : (m : Int) < (cr : Int) := by omega
      have HOX := hide1 (sym_three HLEN.out (HOK.out x (List.mem_of_getElem? hx)))
      have HKX := hide1 (HKN.out x (List.mem_of_getElem? hx))
      have HTK : Hid (∀ a, symY nl L x = some a → catY nl L (row.take (m + 1)) = catY nl L (row.take m) ++ a) := fun a h => by rw [List.take_add_one, hx]; exact cat_snoc h _
      obtain ⟨kd, sn⟩ := x
      dsimp only at k0 k1
      clear hx hcell2
      have HXB := hide1 (XBox.new wr kd sn)
      have HK6 : Hid (Kept wr (wr.alloc (.cells #[.int .i64 kd, .int .i64 sn] 68))) := (Kept.refl wr).alloc _ _
      go_upto_region 6 with fail
      clear k0 k1 p0 p1
      obtain ⟨W6, hW6⟩ : ∃ W6, wr.alloc (.cells #[.int .i64 kd, .int .i64 sn] 68) = W6 := ⟨_, rfl⟩
      rw [hW6] at HXB HK6 ⊢
      clear hW6
      obtain ⟨xb, hxb⟩ : ∃ xb, wr.heap.size = xb := ⟨_, rfl⟩
      rw [hxb] at HXB ⊢
      clear hxb
      obtain ⟨t0, t1⟩ := HXB.out.cells
      have HO6 := hide1 (HO.out.keep HK6.out)
      have HKW6 := hide1 (gtrans HKr.out HK6.out)
      have HLE : Hid ((catY nl L (row.take m)).length ≤ 8388608) := by have := HNL.out; have := HNB.out; show _ ≤ _; omega
      by_cases h1 : kd = 1
      · subst h1
        obtain ⟨q, rfl⟩ : ∃ q : Nat, sn = (q : Int) := ⟨sn.toNat, by rcases HOX.out with e | e | e <;> simp only at e <;> omega⟩
        have HE := hide1 (HTK.out [(q : Int)] (by unfold symY; rw [if_neg (by show ¬ (1 : Int) = 3; decide)]; unfold termN; rw [if_neg (by show ¬ (1 : Int) = 2; decide)]; rfl))
        go_wp2_with (at_builtin; go_must (refine wpl_ints rfl _ _ rfl _ W.heap.size _ _ n HNL.out (by rfl) (HO6.out.keep (w' := W6.alloc (.cells #[.int .i64 (q : Int)] 3)) ((Kept.refl W6).alloc _ _)) W6.heap.size (q : Int) (by rfl) (heap_alloc_new W6 _) HLE.out (by exact Nat.le_trans HKW6.out.size (allocS_le W6 _)) ?_; intro g9 c9 w9 ho9 hg9 hor9 hl9; have HO9 := hide1 ho9; have HK9 := hide1 (grown_ownE HKW6.out (Nat.le_refl _) HO6.out hg9); clear ho9 hg9 hor9 hl9))
        go_roundw
        case rel => exact ⟨m + 1, n + 1, by go_num, by rw [HROW.out]; omega, ⟨_, _, rfl⟩, (by show _ = _; rw [HE.out, List.length_append, HNL.out]; rfl), (by show IntsO _ _ _ _; rw [HE.out]; exact HO9.out), HK9⟩
        case measure => simp [intOf]; omega
      · have b1 : (kd == 1) = false := by simpa using h1
        by_cases h2 : kd = 2
        · subst h2
          obtain ⟨s0, s1, s2, s3⟩ := (HB1.out.keep HKW6.out).facts
          have HE := hide1 (HTK.out [(nl : Int)] (by unfold symY; rw [if_neg (by show ¬ (2 : Int) = 3; decide)]; unfold termN; rw [if_pos rfl]))
          clear h1
          go_wp2_with (at_builtin; go_must (refine wpl_ints rfl _ _ rfl _ W.heap.size _ _ n HNL.out (by rfl) (HO6.out.keep (w' := W6.alloc (.cells #[.int .i64 (nl : Int)] 3)) ((Kept.refl W6).alloc _ _)) W6.heap.size (nl : Int) (by rfl) (heap_alloc_new W6 _) HLE.out (by exact Nat.le_trans HKW6.out.size (allocS_le W6 _)) ?_; intro g9 c9 w9 ho9 hg9 hor9 hl9; have HO9 := hide1 ho9; have HK9 := hide1 (grown_ownE HKW6.out (Nat.le_refl _) HO6.out hg9); clear ho9 hg9 hor9 hl9))
          go_roundw
          case rel => exact ⟨m + 1, n + 1, by go_num, by rw [HROW.out]; omega, ⟨_, _, rfl⟩, (by show _ = _; rw [HE.out, List.length_append, HNL.out]; rfl), (by show IntsO _ _ _ _; rw [HE.out]; exact HO9.out), HK9⟩
          case measure => simp [intOf]; omega
        · have b2 : (kd == 2) = false := by simpa using h2
          have h3 : kd = 3 := by rcases HOX.out with e | e | e <;> simp only at e <;> omega
          subst h3
          clear h1 h2
          obtain ⟨q, rfl⟩ : ∃ q : Nat, sn = (q : Int) := ⟨sn.toNat, by rcases HOX.out with e | e | e <;> simp only at e <;> omega⟩
          have gqn : (q : Int) < (nn : Int) := by rcases HOX.out with e | e | e <;> simp only at e <;> omega
          have HKQ : Hid (L q ≠ none) := by have h := HKX.out rfl; rw [show (((3 : Int), (q : Int)) : SymM).2.toNat = q from Int.toNat_natCast q] at h; exact h
          obtain ⟨r, hr⟩ : ∃ r, L q = some r := Option.ne_none_iff_exists'.1 HKQ.out
          obtain ⟨v, hv⟩ : ∃ v, vs[q]? = some v := ⟨_, List.getElem?_eq_getElem (by have := HY.out.vl; omega)⟩
          obtain ⟨va, vn, vc, rfl⟩ := HY.out.form q v hv
          have HYW := hide1 (HY.out.keep (gtrans HK1.out HKW6.out))
          have cv := HYW.out.rows.cell hv
          have HIR := hide1 ((HYW.out.own q _ r hv hr).read (by have := HY.out.short q r hr; omega))
          have HRS := hide1 (HY.out.short q r hr)
          have HE := hide1 (HTK.out r (by unfold symY; rw [if_pos rfl, show (((3 : Int), (q : Int)) : SymM).2.toNat = q from Int.toNat_natCast q]; exact hr))
          have HVN : Hid (r.length = vn) := by
            obtain ⟨_, _, e, _⟩ := SliceOf.len HIR.out
            simp only [Value.slice.injEq] at e
            exact e.2.1.symm
          clear hr hv
          obtain ⟨zs, hzs⟩ : ∃ zs, catY nl L (row.take m) ++ r = zs := ⟨_, rfl⟩
          have HZS := hide1 hzs
          have HZL : Hid (zs.length = n + vn) := by show _ = _; rw [← hzs, List.length_append, HNL.out, HVN.out]
          have HWB : Hid (W.heap.size ≤ W6.heap.size) := HKW6.out.size
          have HNV : Hid (n + vn ≤ 8388608) := by have := HNB.out; have := HRS.out; have := HVN.out; show _ ≤ _; omega
          clear hzs
          go_wp2_with (at_builtin; go_must (refine wpl_intsL rfl _ _ rfl W _ W.heap.size _ (catY nl L (row.take m)) (by rfl) (Nat.le_refl _) HWB.out HKW6.out HO6.out (.slice va vn vc) r zs (n + vn) HZS.out HZL.out (by rfl) HIR.out HNV.out ?_; intro b9 c9 w9 ho9 hk9 hg9; have HO9 := hide1 ho9; have HK9 := hide1 hk9; clear ho9 hk9 hg9))
          go_roundw
          case rel => exact ⟨m + 1, n + vn, by go_num, by rw [HROW.out]; omega, ⟨_, _, rfl⟩, (by show _ = _; rw [HE.out, HZS.out]; exact HZL.out), (by show IntsO _ _ _ _; rw [HE.out, HZS.out]; exact HO9.out), HK9⟩
          case measure => simp [intOf]; omega
    · have HEQ : Hid (row.take m = row) := List.take_of_length_le (by have := HROW.out; omega)
      have gnb : (n : Int) ≤ 65536 := by have := HNB.out; omega
      go_wp2_with fail
      go_ret2
      refine ⟨a, n, c, ?_, by rw [← HNL.out, HEQ.out], ?_, gtrans HK1.out HKr.out⟩
      · by_cases h : n ≤ 4096
        · simp [h]; omega
        · simp [h]; omega
      · have h := HO.out
        rw [HEQ.out] at h
        exact intsE_low h HK1.out.size

end Ex
end Go.Proofs.YtggodknnfpegmaaDoor
namespace Go.Proofs.YtggodknnfpegmaaDoor
open Go.RowKit
attribute [local go_sem] Oper.semAt_some
namespace Ex

theorem YmS.missing {nn gr gh B nl : Nat} {w : World} {vs : List Value} {ms : List Bool} {L : Nat → Option (List Int)} (h : YmS nn gr gh B w vs ms L) {x : SymM} (hx : x.1 = 3 → 0 ≤ x.2 ∧ x.2 < (nn : Int)) : missB true (bitsOf ms) x = true ↔ symY nl L x = none := by
  unfold missB symY
  by_cases h3 : x.1 = 3
  · rw [if_pos h3, if_pos h3]
    obtain ⟨h0, h1⟩ := hx h3
    obtain ⟨y, hy⟩ : ∃ y, ms[x.2.toNat]? = some y := ⟨_, List.getElem?_eq_getElem (by rw [h.ml]; omega)⟩
    rw [bits_at hy]
    have := h.known _ y hy
    cases y with
    | true =>
      constructor
      · intro h4; cases h4
      · intro h4; exact absurd h4 (this.1 rfl)
    | false =>
      constructor
      · intro _
        cases hL : L x.2.toNat with
        | none => rfl
        | some r => exact absurd (this.2 (by rw [hL]; simp)) (by decide)
      · intro _; rfl
  · rw [if_neg h3, if_neg h3]
    simp
theorem YmS.put {nn gr gh B l n c : Nat} {w w' : World} {a : Option Addr} {vs : List Value} {ms : List Bool} {L : Nat → Option (List Int)} {r : List Int} (h : YmS nn gr gh B w vs ms L) (hl : l < nn) (hr : Blk w' gr (vs.set l (.slice a n c)) 41) (ht : TabB w' gh (ms.set l true)) (hk : ∀ d, d < w.heap.size → d ≠ gr → d ≠ gh → w'.heap[d]? = w.heap[d]?) (ho : IntsO w' B (.slice a n c) r) (h4 : r.length ≤ 4096) : YmS nn gr gh B w' (vs.set l (.slice a n c)) (ms.set l true) (putL L l (some r)) := by
  have hvl : l < vs.length := by rw [h.vl]; exact hl
  have hml : l < ms.length := by rw [h.ml]; exact hl
  refine ⟨by rw [List.length_set]; exact h.vl, by rw [List.length_set]; exact h.ml, hr, ht, fun i x hx => ?_, fun i v q hv hq => ?_, fun i v hv => ?_, fun i hi => ?_, h.low, fun i q hq => ?_⟩
  · unfold putL
    by_cases e : i = l
    · subst e
      rw [List.getElem?_set_self hml] at hx
      injection hx with hx
      subst hx
      rw [if_pos rfl]
      exact ⟨fun _ => by simp, fun _ => rfl⟩
    · rw [List.getElem?_set_ne (fun h => e h.symm)] at hx
      rw [if_neg e]
      exact h.known i x hx
  · unfold putL at hq
    by_cases e : i = l
    · subst e
      rw [List.getElem?_set_self hvl] at hv
      injection hv with hv
      rw [if_pos rfl] at hq
      injection hq with hq
      subst hv hq
      exact ho
    · rw [List.getElem?_set_ne (fun h => e h.symm)] at hv
      rw [if_neg e] at hq
      have ho2 := h.own i v q hv hq
      exact owns_same ho2 (fun g hg => hk g (ho2.lt g hg).2 (by have := (ho2.lt g hg).1; have := h.low; omega) (by have := (ho2.lt g hg).1; have := h.low; omega))
  · by_cases e : i = l
    · subst e
      rw [List.getElem?_set_self hvl] at hv
      injection hv with hv
      exact ⟨a, n, c, hv.symm⟩
    · rw [List.getElem?_set_ne (fun h => e h.symm)] at hv
      exact h.form i v hv
  · unfold putL
    rw [if_neg (by omega)]
    exact h.out i hi
  · unfold putL at hq
    by_cases e : i = l
    · rw [if_pos e] at hq
      injection hq with hq
      rw [← hq]; exact h4
    · rw [if_neg e] at hq
      exact h.short i q hq
/-- The rows in memory, read off the world. -/
def rdInts (w : World) : Value → List Int
  | .slice (some a) n _ => (List.range n).map fun t => match w.cell? ⟨a.block, a.off + t, none⟩ with | some (.int _ z) => z | _ => 0
  | _ => []
def rdYm (nn gr gh : Nat) (w : World) (i : Nat) : Option (List Int) := if i < nn ∧ (rdTab gh w).testBit i = true then some (rdInts w ((w.cell? ⟨gr, i, none⟩).getD (.bool false))) else none
theorem ints_rd {w : World} {base : Nat} {v : Value} {l : List Int} (h : IntsO w base v l) : rdInts w v = l := by
  have h2 : w.ownsRow base 3 1 v l.length (flatS l) := h
  rcases h2.2 with ⟨rfl, h0⟩ | ⟨g, cap, cur, rfl, _, hg, hc, _, hs, ht⟩
  · have : l = [] := List.length_eq_zero_iff.1 h0
    subst this
    rfl
  · apply List.ext_getElem?
    intro i
    show ((List.range l.length).map _)[i]? = l[i]?
    rw [List.getElem?_map]
    rcases Nat.lt_or_ge i l.length with hi | hi
    · rw [List.getElem?_range hi, List.getElem?_eq_getElem hi]
      have := row_cells hg ht i (.int .i64 l[i]) (by unfold flatS; rw [List.getElem?_map, List.getElem?_eq_getElem hi]; rfl)
      rw [Nat.zero_add] at this
      simp [this]
    · rw [List.getElem?_eq_none (by rw [List.length_range]; exact hi), List.getElem?_eq_none hi]
      rfl
theorem YmS.rd {nn gr gh B : Nat} {w : World} {vs : List Value} {ms : List Bool} {L : Nat → Option (List Int)} (h : YmS nn gr gh B w vs ms L) : rdYm nn gr gh w = L := by
  funext i
  unfold rdYm
  rcases Nat.lt_or_ge i nn with hi | hi
  · obtain ⟨x, hx⟩ : ∃ x, ms[i]? = some x := ⟨_, List.getElem?_eq_getElem (by rw [h.ml]; exact hi)⟩
    obtain ⟨v, hv⟩ : ∃ v, vs[i]? = some v := ⟨_, List.getElem?_eq_getElem (by rw [h.vl]; exact hi)⟩
    rw [h.tab.rd, bits_at hx, h.rows.cell hv]
    have hk := h.known i x hx
    cases x with
    | true =>
      rw [if_pos ⟨hi, rfl⟩]
      obtain ⟨r, hr⟩ := Option.ne_none_iff_exists'.1 (hk.1 rfl)
      rw [hr]
      exact congrArg some (ints_rd (h.own i v r hv hr))
    | false =>
      rw [if_neg (fun h => by cases h.2)]
      cases hL : L i with
      | none => rfl
      | some r => exact absurd (hk.2 (by rw [hL]; simp)) (by decide)
  · rw [if_neg (fun h => by omega), h.out i hi]
def YbI (nl nn gr gh B : Nat) (ps : List ProdM) (W : World) (vf : Value) (wr : World) : Prop := ∃ (vs : List Value) (ms : List Bool) (L : Nat → Option (List Int)) (fl : Bool), vf = .bool fl ∧ Hid (YmS nn gr gh B wr vs ms L) ∧ Hid (OkY L ∧ SndY nl ps L) ∧ Hid (fl = false → YStep nl ps L L ps.length) ∧ Hid (Kept W wr)
def YbJ (nl nn gr gh B : Nat) (ps : List ProdM) (L0 : Nat → Option (List Int)) (W : World) (vf vi : Value) (wr : World) : Prop := ∃ (j : Nat) (vs : List Value) (ms : List Bool) (L : Nat → Option (List Int)) (fl : Bool), vf = .bool fl ∧ vi = .int .i64 (j : Int) ∧ j ≤ ps.length ∧ Hid (YmS nn gr gh B wr vs ms L) ∧ Hid (OkY L) ∧ Hid (YStep nl ps L0 L j) ∧ Hid ((fl = false → L = L0) ∧ (fl = true → ∃ n, n < nn ∧ L n ≠ L0 n)) ∧ Hid (Kept W wr)
/-- What the document's Yields answers. -/
def YldD (nl nn : Nat) (ps : List ProdM) (w : World) (e : Ending) (w' : World) : Prop := ∃ L : Nat → Option (List Int), YIs nl ps L ∧ Kept w w' ∧ ((∃ i, i < nn ∧ L i = none ∧ (∀ k, k < i → L k ≠ none) ∧ e = .returned (.tuple #[.slice none 0 0, .int .i64 (i : Int), .int .i64 6])) ∨ ((∀ i, i < nn → L i ≠ none) ∧ ∃ gr, e = .returned (.tuple #[.slice (some ⟨gr, 0, none⟩) nn nn, .int .i64 0, .int .i64 0]) ∧ RowsR w' (.slice (some ⟨gr, 0, none⟩) nn nn) ((List.range nn).map fun i => (L i).getD [])))
theorem val_flag {L L0 : Nat → Option (List Int)} {nn : Nat} (hnn : nn ≤ 128) (hL : OkY L) (h0 : OkY L0) (hb : BeY L L0) (h : ∃ n, n < nn ∧ L n ≠ L0 n) : sumV (fun n => valO (L n)) 128 < sumV (fun n => valO (L0 n)) 128 := by
  obtain ⟨i, hi, hne⟩ := h
  have key := fun n => val_le hb (fun n r h => (h0 n r h).1) (fun n r h => (hL n r h).1) (fun n r h => (hL n r h).2) n
  exact sumV_lt (fun n => (key n).1) (by omega) ((key i).2 hne)

end Ex
end Go.Proofs.YtggodknnfpegmaaDoor
namespace Go.Proofs.YtggodknnfpegmaaDoor
open Go.RowKit
attribute [local go_sem] Oper.semAt_some
namespace Ex

theorem good_three {k : Nat} {lex : List (LexM k)} {nn nl : Nat} (hlex : lex.length = nl) (hnl : nl ≤ 64) (hnn : nn ≤ 128) {x : SymM} (h : symErr lex nn x = 0) : SymGood x := by
  have hs := sym_three hlex h
  refine ⟨?_, ?_⟩
  · intro h3
    rcases hs with e | e | e <;> omega
  · intro h3 h2
    rcases hs with e | e | e <;> omega
theorem rep_form (n i : Nat) (v : Value) (h : (List.replicate n (Value.slice none 0 0))[i]? = some v) : ∃ a m c, v = .slice a m c := by
  rw [List.getElem?_replicate] at h
  split at h
  · injection h with h; exact ⟨none, 0, 0, h.symm⟩
  · cases h
theorem ym_start {nn gr gh B : Nat} {w : World} (hr : Blk w gr (List.replicate nn (.slice none 0 0)) 41) (ht : TabB w gh (List.replicate nn false)) (hb : gr < B ∧ gh < B ∧ gr ≠ gh) : YmS nn gr gh B w (List.replicate nn (.slice none 0 0)) (List.replicate nn false) (fun _ => none) := by
  refine ⟨List.length_replicate, List.length_replicate, hr, ht, fun i x hx => ?_, fun i v r _ h => (by cases h), fun i v hv => rep_form nn i v hv, fun _ _ => rfl, hb, fun n r h => (by cases h)⟩
  rw [List.getElem?_replicate] at hx
  split at hx
  · injection hx with hx
    subst hx
    exact ⟨fun h => (by cases h), fun h => absurd rfl h⟩
  · cases hx
theorem ym_two {nn gr gh B l n c : Nat} {w : World} {a : Option Addr} {vs : List Value} {ms : List Bool} {L : Nat → Option (List Int)} {r : List Int} (h : YmS nn gr gh B w vs ms L) (hl : l < nn) (ho : IntsO w B (.slice a n c) r) (h4 : r.length ≤ 4096) : YmS nn gr gh B ((w.setCell ⟨gr, l, none⟩ (.slice a n c)).setCell ⟨gh, l, none⟩ (.bool true)) (vs.set l (.slice a n c)) (ms.set l true) (putL L l (some r)) := by
  have k1 : KeptBut gr w (w.setCell ⟨gr, l, none⟩ (.slice a n c)) := but_set (but_refl gr w) _ _
  have k2 : KeptBut gh (w.setCell ⟨gr, l, none⟩ (.slice a n c)) ((w.setCell ⟨gr, l, none⟩ (.slice a n c)).setCell ⟨gh, l, none⟩ (.bool true)) := but_set (but_refl gh _) _ _
  refine h.put hl ((h.rows.set l _).but k2 h.low.2.2) ((h.tab.but k1 (fun e => h.low.2.2 e.symm)).set) (fun d hd h1 h2 => ?_) ?_ h4
  · rw [k2.2.2.2.2 d (by rw [World.size_setCell]; exact hd) h2, k1.2.2.2.2 d hd h1]
  · exact (ho.but k1 (fun g hg => by have := (ho.lt g hg).1; have := h.low; omega)).but k2 (fun g hg => by have := (ho.lt g hg).1; have := h.low; omega)
theorem put_ne {L L0 : Nat → Option (List Int)} {l : Nat} {r : List Int} (hb : BeY L L0) (h : betterM (some r) (L l) = true) : putL L l (some r) l ≠ L0 l := by
  intro e
  unfold putL at e
  rw [if_pos rfl] at e
  obtain ⟨r1, h1, h2⟩ := hb l r e.symm
  rw [h1] at h
  have h3 : shorter r r1 = true := h
  have h4 : shorter r r1 = false := h2
  rw [h3] at h4
  cases h4
theorem ym_rows {nn gr gh B : Nat} {w : World} {vs : List Value} {ms : List Bool} {L : Nat → Option (List Int)} (h : YmS nn gr gh B w vs ms L) (hn : nn ≤ 128) (hall : ∀ i, i < nn → L i ≠ none) : RowsR w (.slice (some ⟨gr, 0, none⟩) nn nn) ((List.range nn).map fun i => (L i).getD []) := by
  refine ⟨some ⟨gr, 0, none⟩, nn, by rw [List.length_map, List.length_range], by rw [List.length_map, List.length_range]; exact Nat.le_refl _, by rw [List.length_map, List.length_range]; omega, .inr ⟨gr, 0, rfl, h.rows.lt, fun i x hx => ?_⟩⟩
  rw [List.getElem?_map] at hx
  obtain ⟨i', hi', rfl⟩ := Option.map_eq_some_iff.1 hx
  obtain ⟨hi, he⟩ := List.getElem?_eq_some_iff.1 hi'
  rw [List.length_range] at hi
  rw [List.getElem_range] at he
  subst he
  obtain ⟨v, hv⟩ : ∃ v, vs[i]? = some v := ⟨_, List.getElem?_eq_getElem (by rw [h.vl]; exact hi)⟩
  obtain ⟨r, hr⟩ := Option.ne_none_iff_exists'.1 (hall i hi)
  refine ⟨[v], rfl, fun j u hj => ?_, v, rfl, ?_⟩
  · match j, hj with
    | 0, hj =>
      have e : v = u := by simpa using hj
      subst e
      have := h.rows.cell hv
      simpa using this
    | _ + 1, hj => simp at hj
  · rw [hr]
    exact (h.own i v r hv hr).read (by have := h.short i r hr; simp; omega)
def YcI (L : Nat → Option (List Int)) (W : World) (vi : Value) (wr : World) : Prop := ∃ j : Nat, vi = .int .i64 (j : Int) ∧ Hid (∀ k, k < j → L k ≠ none) ∧ Hid (wr = W)
set_option linter.unusedSimpArgs false in
set_option maxRecDepth 100000 in
set_option maxHeartbeats 16000000 in
/-- The document's Yields of a spec in order. -/
theorem dYields_is (k : Nat) (lex : List (LexM k)) (ps : List ProdM) (al an ap : Option Addr) (nl cl nn cn np cp : Nat) (x2 : Value) (w : World) (hnl : nl ≤ 64) (hnn : nn ≤ 128) (hlex : lex.length = nl) (hps : ps.length = np) (hp : ProdsAt w (.slice ap np cp) ps) (h16 : ∀ p ∈ ps, p.2.length ≤ 16) (hok : ∀ p ∈ ps, (0 ≤ p.1 ∧ p.1 < (nn : Int)) ∧ ∀ x ∈ p.2, symErr lex nn x = 0) :
    Calls Tryd.prog 26 #[.agg #[.slice al nl cl, .slice an nn cn, x2, .slice ap np cp]] w (YldD nl nn ps w) := by
  have HK1 : Hid (Kept w (w.alloc (.cells #[.slice al nl cl, .slice an nn cn, x2, .slice ap np cp] 26))) := (Kept.refl w).alloc _ _
  have HB1 := hide1 (SBox.new w (.slice al nl cl) (.slice an nn cn) x2 (.slice ap np cp))
  have HP := hide1 hp
  have HPS := hide1 hps
  have HOK := hide1 hok
  have HEN := hide1 (exact_names hlex hok)
  have H16 := hide1 h16
  have HNN := hide1 hnn
  have HNL := hide1 hnl
  have HLEN := hide1 hlex
  obtain ⟨_, _, e1, hc, hn⟩ := hp.len
  simp only [Value.slice.injEq] at e1
  obtain ⟨rfl, en, rfl⟩ := e1
  clear en
  rw [hps] at hc hn
  have gn : (nn : Int) ≤ 128 := by omega
  have gp : (np : Int) ≤ 17592186044416 := by omega
  clear hp hps hok hlex h16
  go_enter Tryd.func26, Tryd.ntmps26
  go_upto_region 1 with fail
  obtain ⟨W0, hW0⟩ : ∃ W0, w.alloc (.cells #[.slice al nl cl, .slice an nn cn, x2, .slice ap np cp] 26) = W0 := ⟨_, rfl⟩
  rw [hW0] at HK1 HB1 ⊢
  clear hW0
  obtain ⟨b, hb⟩ : ∃ b, w.heap.size = b := ⟨_, rfl⟩
  rw [hb] at HB1 ⊢
  clear hb
  obtain ⟨s0, s1, s2, s3⟩ := HB1.out.facts
  have hmk := run_rows nn (by omega) W0
  go_upto_region 2 with fail
  clear s0 s1 s2 s3 hmk
  have HK2 : Hid (Kept W0 (W0.alloc (.cells (Array.replicate nn (.slice none 0 0)) 41))) := (Kept.refl _).alloc _ _
  have HR2 : Hid (Blk (W0.alloc (.cells (Array.replicate nn (.slice none 0 0)) 41)) W0.heap.size (List.replicate nn (.slice none 0 0)) 41) := by
    show Blk _ _ _ _
    unfold Blk
    rw [heap_alloc_new]
    simp
  have HS2 : Hid ((W0.alloc (.cells (Array.replicate nn (.slice none 0 0)) 41)).heap.size = W0.heap.size + 1) := World.size_alloc _ _
  obtain ⟨W2, hW2⟩ : ∃ W2, W0.alloc (.cells (Array.replicate nn (.slice none 0 0)) 41) = W2 := ⟨_, rfl⟩
  rw [hW2] at HK2 HR2 HS2 ⊢
  clear hW2
  obtain ⟨gr, hgr⟩ : ∃ gr, W0.heap.size = gr := ⟨_, rfl⟩
  rw [hgr] at HR2 HS2 ⊢
  have HGR : Hid (W0.heap.size ≤ gr) := Nat.le_of_eq hgr
  clear hgr
  obtain ⟨s0, s1, s2, s3⟩ := (HB1.out.keep HK2.out).facts
  have hmk := run_tab nn (by omega) W2
  go_upto_region 3 with fail
  clear s0 s1 s2 s3 hmk
  have HK3 : Hid (Kept W2 (W2.alloc (.cells (Array.replicate nn (.bool false)) 4))) := (Kept.refl _).alloc _ _
  have HT3 := hide1 (tab_rep nn W2)
  have HS3 : Hid ((W2.alloc (.cells (Array.replicate nn (.bool false)) 4)).heap.size = W2.heap.size + 1) := World.size_alloc _ _
  obtain ⟨W, hW⟩ : ∃ W, W2.alloc (.cells (Array.replicate nn (.bool false)) 4) = W := ⟨_, rfl⟩
  rw [hW] at HK3 HT3 HS3 ⊢
  clear hW
  obtain ⟨gh, hgh⟩ : ∃ gh, W2.heap.size = gh := ⟨_, rfl⟩
  rw [hgh] at HT3 HS2 HS3 ⊢
  have HGH : Hid (W0.heap.size ≤ gh) := by have := HGR.out; have := HS2.out; show _ ≤ _; omega
  clear hgh
  have HY0 := hide1 (ym_start (B := W.heap.size) (HR2.out.keep HK3.out) HT3.out ⟨by have := HS2.out; have := HS3.out; omega, by have := HS3.out; omega, by have := HS2.out; omega⟩)
  have HKW := hide1 (gtrans HK2.out HK3.out)
  have HBD : Hid (W.heap.size = gh + 1 ∧ gh = gr + 1) := ⟨HS3.out, HS2.out⟩
  obtain ⟨B, hB⟩ : ∃ B, W.heap.size = B := ⟨_, rfl⟩
  rw [hB] at HY0 HBD
  have HBB := hide1 hB
  clear hB
  go_wp2_with fail
  go_loopw [7] (YbI nl nn gr gh B ps W0) (fun f wr => 2 * sumV (fun n => valO (rdYm nn gr gh wr n)) 128 + flagN f)
  case atStart => exact ⟨_, _, fun _ => none, true, rfl, HY0, ⟨fun n r h => (by cases h), fun n r h => (by cases h)⟩, fun h => (by cases h), HKW⟩
  case round =>
    obtain ⟨vs, ms, L, fl, rfl, HY, HOS, HFI, HKr⟩ := hrel
    cases fl with
    | true =>
      go_wp2_with fail
      go_loopw [7, 8] (YbJ nl nn gr gh B ps L W0) (fun _ i _ => np - (intOf i).toNat)
      case atStart => exact ⟨0, vs, ms, L, false, rfl, rfl, Nat.zero_le _, HY, HOS.out.1, YStep.start nl ps L, ⟨fun _ => rfl, fun h => (by cases h)⟩, HKr⟩
      case round =>
        obtain ⟨m, vs2, ms2, L2, f2, rfl, rfl, hm, HY2, HOY, HST, HFL, HKi⟩ := hrel
        rw [HPS.out] at hm
        obtain ⟨s0, s1, s2, s3⟩ := (HB1.out.keep HKi.out).facts
        by_cases hlt : (m : Int) < (np : Int)
        · obtain ⟨p, hp⟩ : ∃ p, ps[m]? = some p := ⟨_, List.getElem?_eq_getElem (by have := HPS.out; omega)⟩
          obtain ⟨cb, o2, cs, ea, hcb, hlen, hcell, v', hcs, hrt⟩ := SliceOf.el HP.out hp
          subst ea hcs
          have k0 : wr.cell? ⟨cb, o2 + m * 2, none⟩ = some (.int .i64 p.1) := grown_cell (gtrans HK1.out HKi.out) (hcell 0 _ rfl)
          have k1 := grown_cell (gtrans HK1.out HKi.out) (hcell 1 _ rfl)
          have gmc : (m : Int) < (cp : Int) := by omega
          have HOKp := hide1 (HOK.out p (List.mem_of_getElem? hp))
          have HENp := hide1 (HEN.out p (List.mem_of_getElem? hp))
          have H16p := hide1 (H16.out p (List.mem_of_getElem? hp))
          have HPJ := hide1 hp
          obtain ⟨ar, cr, rfl, hcr, hnr⟩ := hrt.len
          obtain ⟨nr, hnr2⟩ : ∃ nr, p.2.length = nr := ⟨_, rfl⟩
          rw [hnr2] at hrt hcr hnr k1 H16p
          have HNR := hide1 hnr2
          have HRT := hide1 hrt
          obtain ⟨l, hl⟩ : ∃ l : Nat, p.1 = (l : Int) := ⟨p.1.toNat, by have := HOKp.out.1.1; omega⟩
          have HLE : Hid (p.1.toNat = l) := by show _ = _; omega
          have gln : (l : Int) < (nn : Int) := by have := HOKp.out.1; omega
          rw [hl] at k0
          clear hp hcell hrt hnr2 hl
          have HPB := hide1 (PBox.new wr (.int .i64 (l : Int)) (.slice ar nr cr))
          have HK4 : Hid (Kept wr (wr.alloc (.cells #[.int .i64 (l : Int), .slice ar nr cr] 40))) := (Kept.refl wr).alloc _ _
          go_upto_region 10 with fail
          clear k0 k1 s0 s1 s2 s3
          obtain ⟨W4, hW4⟩ : ∃ W4, wr.alloc (.cells #[.int .i64 (l : Int), .slice ar nr cr] 40) = W4 := ⟨_, rfl⟩
          rw [hW4] at HPB HK4 ⊢
          clear hW4
          obtain ⟨pb, hpb⟩ : ∃ pb, wr.heap.size = pb := ⟨_, rfl⟩
          rw [hpb] at HPB ⊢
          have HPX : Hid (pb ≠ gr ∧ pb ≠ gh) := by have h1 := HY2.out.rows.lt; have h2 := HY2.out.tab.lt; exact ⟨by omega, by omega⟩
          have HBL : Hid (B ≤ pb) := by rw [← hpb]; have := HBD.out; have := HY2.out.tab.lt; show _ ≤ _; omega
          clear hpb
          obtain ⟨p0, p1⟩ := HPB.out.cells
          have HY4 := hide1 (HY2.out.keep HK4.out)
          have HKW4 := hide1 (gtrans HKi.out HK4.out)
          have HCA := hide1 (dAll_is gh ms2 nn nn ar nr cr p.2 (l : Int) W4 HY4.out.ml HNN.out (Nat.le_refl _) HNR.out HY4.out.tab (HRT.out.keep (gtrans HK1.out HKW4.out)) HENp.out.2)
          cases hany : p.2.any (missB true (bitsOf ms2)) with
          | true =>
            rw [hany] at HCA
            have HSK : Hid (YStep nl ps L L2 (m + 1)) := by
              obtain ⟨x, hx, hmx⟩ := List.any_eq_true.1 hany
              refine HST.out.skip HPJ.out ?_
              rw [join_none p.2 [] ⟨x, hx, (HY4.out.missing (HENp.out.2 x hx)).1 hmx⟩]
              rfl
            clear hany
            go_wp2_with (go_at_call 58; refine HCA.out.mono ?_; rintro e w6 ⟨rfl, hk6⟩; have HK6 := hide1 hk6; clear hk6)
            go_roundw
            case rel => exact ⟨m + 1, vs2, ms2, L2, f2, rfl, by go_num, by rw [HPS.out]; omega, HY4.out.keep HK6.out, HOY, HSK, HFL, gtrans HKW4.out HK6.out⟩
            case measure => simp [intOf]; omega
          | false =>
            rw [hany] at HCA
            have HSY : Hid (∀ y ∈ p.2, symY nl L2 y ≠ none) := fun y hy hn => by
              have h1 := (HY4.out.missing (nl := nl) (HENp.out.2 y hy)).2 hn
              have h2 := List.any_eq_true.2 ⟨y, hy, h1⟩
              rw [hany] at h2
              cases h2
            have HKY : Hid (∀ x ∈ p.2, x.1 = 3 → L2 x.2.toNat ≠ none) := fun x hx h3 => by have h := HSY.out x hx; unfold symY at h; rw [if_pos h3] at h; exact h
            clear hany
            go_upto_region 11 with (go_at_call 58; refine HCA.out.mono ?_; rintro e w6 ⟨rfl, hk6⟩; have HK6 := hide1 hk6; clear hk6)
            clear p0 p1 HCA
            have HY6 := hide1 (HY4.out.keep HK6.out)
            have HKW6 := hide1 (gtrans HKW4.out HK6.out)
            obtain ⟨p0, p1⟩ := (HPB.out.keep HK6.out).cells
            obtain ⟨s0, s1, s2, s3⟩ := (HB1.out.keep HKW6.out).facts
            have HB6 : Hid (B ≤ w6.heap.size) := by have h1 := HY6.out.tab.lt; have h2 := HBD.out; show _ ≤ _; omega
            go_upto_region 12 with (go_at_call 59; refine (dJoined_is k lex p.2 al ar nl cl nr cr nn gr gh B (.slice an nn cn) x2 _ (l : Int) vs2 ms2 L2 w6 HNL.out HNN.out HLEN.out HNR.out H16p.out (HRT.out.keep (gtrans HK1.out HKW6.out)) HOKp.out.2 HY6.out HKY.out).mono ?_; rintro e w7 ⟨ja, jn, jc, rfl, h71, h72, h73⟩; have HJN := hide1 h71; have HJO := hide1 (intsE_low h72 HB6.out); have HK7 := hide1 h73; clear h71 h72 h73)
            clear s0 s1 s2 s3 p0 p1
            have HY7 := hide1 (HY6.out.keep HK7.out)
            have HKW7 := hide1 (gtrans HKW6.out HK7.out)
            obtain ⟨p0, p1⟩ := (HPB.out.keep (gtrans HK6.out HK7.out)).cells
            have HLN : Hid (l < nn) := by show _ < _; omega
            have HCJ := hide1 (cat_join (nl := nl) (L := L2) p.2 [] HSY.out (by simp))
            rw [List.nil_append] at HCJ
            obtain ⟨y, hy⟩ : ∃ y, ms2[l]? = some y := ⟨_, List.getElem?_eq_getElem (by have := HY7.out.ml; have := HLN.out; omega)⟩
            have c5 := HY7.out.tab.cell hy
            have HYL := hide1 hy
            have HYK := hide1 (HY7.out.known l y hy)
            obtain ⟨v, hv⟩ : ∃ v, vs2[l]? = some v := ⟨_, List.getElem?_eq_getElem (by have := HY7.out.vl; have := HLN.out; omega)⟩
            obtain ⟨va, vn, vc, rfl⟩ := HY7.out.form l v hv
            have HVL := hide1 hv
            clear hy hv
            by_cases h4 : jn ≤ 4096
            · have hd4 : decide (jn ≤ 4096) = true := by simpa using h4
              have HR4 : Hid ((catY nl L2 p.2).length ≤ 4096) := by have := HJN.out; show _ ≤ _; omega
              have HJM : Hid (joinM nl L2 p.2 [] = some (catY nl L2 p.2)) := by show _ = _; rw [HCJ.out, if_neg (by have := HR4.out; omega)]
              have HBY : Hid (∀ z ∈ catY nl L2 p.2, IsB z) := join_bytes HOY.out (by have := HNL.out; omega) p.2 [] _ (fun y hy => good_three HLEN.out HNL.out HNN.out (HOKp.out.2 y hy)) (fun z hz => by cases hz) HJM.out
              clear h4
              cases y with
              | false =>
                have HL0 : Hid (L2 l = none) := by
                  cases hL : L2 l with
                  | none => rfl
                  | some r => exact absurd (HYK.out.2 (by rw [hL]; simp)) (by decide)
                have HBT : Hid (betterM (some (catY nl L2 p.2)) (L2 l) = true) := by show _ = _; rw [HL0.out]; rfl
                have HYP := hide1 (ym_two HY7.out HLN.out (HJO.out) HR4.out)
                have HSP := hide1 (HST.out.put HPJ.out HLE.out HJM.out HBT.out)
                have HOP : Hid (OkY (putL L2 l (some (catY nl L2 p.2)))) := HOY.out.put (fun r h => by injection h with h; subst h; exact ⟨HBY.out, HR4.out⟩)
                have HNE := hide1 (put_ne HST.out.down HBT.out)
                have HKP : Hid (Kept W0 ((w7.setCell ⟨gr, l, none⟩ (.slice ja jn jc)).setCell ⟨gh, l, none⟩ (.bool true))) := keepB (keepB HKW7.out HGR.out) HGH.out
                obtain ⟨q0, q1⟩ := ((HPB.out.keep (gtrans HK6.out HK7.out)).but (but_set (but_refl gr w7) l (.slice ja jn jc)) HPX.out.1).cells
                have c9 := (HY7.out.tab.but (but_set (but_refl gr w7) l (.slice ja jn jc)) (fun e => HY7.out.low.2.2 e.symm)).cell HYL.out
                have z9 := (HY7.out.tab.but (but_set (but_refl gr w7) l (.slice ja jn jc)) (fun e => HY7.out.low.2.2 e.symm)).free l
                have zr := HY7.out.rows.free l
                have cr0 := HY7.out.rows.cell HVL.out
                go_upto_region 14 with fail
                clear p0 p1 c5 zr cr0
                obtain ⟨W9, hW9⟩ : ∃ W9, w7.setCell ⟨gr, l, none⟩ (.slice ja jn jc) = W9 := ⟨_, rfl⟩
                rw [hW9] at HYP HKP q0 q1 c9 z9 ⊢
                clear hW9
                go_wp2_with fail
                go_roundw
                case rel => exact ⟨m + 1, _, _, _, true, rfl, by go_num, by rw [HPS.out]; omega, HYP, HOP, HSP, ⟨fun h => (by cases h), fun _ => ⟨l, HLN.out, HNE.out⟩⟩, HKP⟩
                case measure => simp [intOf]; omega
              | true =>
                obtain ⟨r0, hr0⟩ := Option.ne_none_iff_exists'.1 (HYK.out.1 rfl)
                have HR0 := hide1 hr0
                have HI0 := hide1 ((HY7.out.own l _ r0 HVL.out hr0).read (by have := HY7.out.short l r0 hr0; omega))
                have HVN : Hid (r0.length = vn) := by
                  obtain ⟨_, _, e, _⟩ := SliceOf.len HI0.out
                  simp only [Value.slice.injEq] at e
                  exact e.2.1.symm
                have HIJ := hide1 (HJO.out.read (by have := HR4.out; omega))
                have cv := HY7.out.rows.cell HVL.out
                obtain ⟨sb, hsb⟩ : ∃ sb, shorter (catY nl L2 p.2) r0 = sb := ⟨_, rfl⟩
                have HSB := hide1 hsb
                have HLS := hide1 (gLess_is ja va jn jc vn vc (catY nl L2 p.2) r0 w7 HJN.out HVN.out HIJ.out HI0.out)
                rw [hsb] at HLS
                clear hr0 hsb
                cases sb with
                | false =>
                  have HSK : Hid (YStep nl ps L L2 (m + 1)) := by
                    refine HST.out.skip HPJ.out ?_
                    rw [HJM.out, HLE.out, HR0.out]
                    exact HSB.out
                  go_wp2_with (go_at_call 60; refine HLS.out.mono ?_; rintro e w8 ⟨rfl, hk8⟩; have HK8 := hide1 hk8; clear hk8)
                  go_roundw
                  case rel => exact ⟨m + 1, vs2, ms2, L2, f2, rfl, by go_num, by rw [HPS.out]; omega, HY7.out.keep HK8.out, HOY, HSK, HFL, gtrans HKW7.out HK8.out⟩
                  case measure => simp [intOf]; omega
                | true =>
                  have HBT : Hid (betterM (some (catY nl L2 p.2)) (L2 l) = true) := by show _ = _; rw [HR0.out]; exact HSB.out
                  go_upto_region 13 with (go_at_call 60; refine HLS.out.mono ?_; rintro e w8 ⟨rfl, hk8⟩; have HK8 := hide1 hk8; clear hk8)
                  clear p0 p1 c5 cv
                  have HY8 := hide1 (HY7.out.keep HK8.out)
                  obtain ⟨p0, p1⟩ := (HPB.out.keep (gtrans (gtrans HK6.out HK7.out) HK8.out)).cells
                  have c5 := HY8.out.tab.cell HYL.out
                  have HYP := hide1 (ym_two HY8.out HLN.out (HJO.out.keep HK8.out) HR4.out)
                  have HSP := hide1 (HST.out.put HPJ.out HLE.out HJM.out HBT.out)
                  have HOP : Hid (OkY (putL L2 l (some (catY nl L2 p.2)))) := HOY.out.put (fun r h => by injection h with h; subst h; exact ⟨HBY.out, HR4.out⟩)
                  have HNE := hide1 (put_ne HST.out.down HBT.out)
                  have HKP : Hid (Kept W0 ((w8.setCell ⟨gr, l, none⟩ (.slice ja jn jc)).setCell ⟨gh, l, none⟩ (.bool true))) := keepB (keepB (gtrans HKW7.out HK8.out) HGR.out) HGH.out
                  obtain ⟨q0, q1⟩ := ((HPB.out.keep (gtrans (gtrans HK6.out HK7.out) HK8.out)).but (but_set (but_refl gr w8) l (.slice ja jn jc)) HPX.out.1).cells
                  have c9 := (HY8.out.tab.but (but_set (but_refl gr w8) l (.slice ja jn jc)) (fun e => HY8.out.low.2.2 e.symm)).cell HYL.out
                  have z9 := (HY8.out.tab.but (but_set (but_refl gr w8) l (.slice ja jn jc)) (fun e => HY8.out.low.2.2 e.symm)).free l
                  have zr := HY8.out.rows.free l
                  have cr0 := HY8.out.rows.cell HVL.out
                  go_upto_region 14 with fail
                  clear p0 p1 c5 zr cr0
                  obtain ⟨W9, hW9⟩ : ∃ W9, w8.setCell ⟨gr, l, none⟩ (.slice ja jn jc) = W9 := ⟨_, rfl⟩
                  rw [hW9] at HYP HKP q0 q1 c9 z9 ⊢
                  clear hW9
                  go_wp2_with fail
                  go_roundw
                  case rel => exact ⟨m + 1, _, _, _, true, rfl, by go_num, by rw [HPS.out]; omega, HYP, HOP, HSP, ⟨fun h => (by cases h), fun _ => ⟨l, HLN.out, HNE.out⟩⟩, HKP⟩
                  case measure => simp [intOf]; omega
            · have hd4 : decide (jn ≤ 4096) = false := by simpa using h4
              have HSK : Hid (YStep nl ps L L2 (m + 1)) := by
                refine HST.out.skip HPJ.out ?_
                rw [HCJ.out, if_pos (by have := HJN.out; omega)]
                rfl
              clear h4
              go_wp2_with fail
              go_roundw
              case rel => exact ⟨m + 1, vs2, ms2, L2, f2, rfl, by go_num, by rw [HPS.out]; omega, HY7, HOY, HSK, HFL, HKW7⟩
              case measure => simp [intOf]; omega
        · have hmn : m = ps.length := by have := HPS.out; omega
          have HST2 : Hid (YStep nl ps L L2 ps.length) := hmn ▸ HST
          go_wp2_with fail
          go_roundw
          case rel =>
            refine ⟨vs2, ms2, L2, f2, rfl, HY2, ⟨HOY.out, HST2.out.sound HOS.out.2⟩, fun h => ?_, HKi⟩
            have e := HFL.out.1 h
            have h2 := HST2.out
            rw [e] at h2 ⊢
            exact h2
          case measure =>
            rw [HY2.out.rd, HY.out.rd]
            cases f2 with
            | false => rw [HFL.out.1 rfl]; simp [flagN]
            | true =>
              have := val_flag HNN.out HOY.out HOS.out.1 HST2.out.down (HFL.out.2 rfl)
              simp [flagN]
              omega
    | false =>
      have HYI := hide1 ((HFI.out rfl).done HOS.out.2)
      go_wp2_with fail
      have HKE := hide1 (gtrans HK1.out HKr.out)
      go_loopw [12] (YcI L wr) (fun i _ => nn - (intOf i).toNat)
      case atStart => exact ⟨0, rfl, fun k hk => by omega, rfl⟩
      case round =>
        obtain ⟨i, rfl, HI, HWI⟩ := hrel
        have hWI := HWI.out.symm
        subst hWI
        by_cases hli : (i : Int) < (nn : Int)
        · obtain ⟨y, hy⟩ : ∃ y, ms[i]? = some y := ⟨_, List.getElem?_eq_getElem (by have := HY.out.ml; omega)⟩
          have c0 := HY.out.tab.cell hy
          have HKN := hide1 (HY.out.known i y hy)
          clear hy
          cases y with
          | true =>
            have HN : Hid (∀ k, k < i + 1 → L k ≠ none) := by
              intro k hk
              rcases Nat.lt_or_ge k i with h | h
              · exact HI.out k h
              · rw [show k = i by omega]; exact HKN.out.1 rfl
            go_wp2_with fail
            go_roundw
            case rel => exact ⟨i + 1, by go_num, HN, rfl⟩
            case measure => simp [intOf]; omega
          | false =>
            have HN : Hid (L i = none) := by
              cases hL : L i with
              | none => rfl
              | some r => exact absurd (HKN.out.2 (by rw [hL]; simp)) (by decide)
            go_wp2_with fail
            go_ret3
            exact ⟨L, HYI.out, HKE.out, .inl ⟨i, by omega, HN.out, HI.out, rfl⟩⟩
        · have HALL : Hid (∀ k, k < nn → L k ≠ none) := fun k hk => HI.out k (by omega)
          go_wp2_with fail
          go_ret3
          exact ⟨L, HYI.out, HKE.out, .inr ⟨HALL.out, gr, rfl, ym_rows HY.out HNN.out HALL.out⟩⟩

end Ex
end Go.Proofs.YtggodknnfpegmaaDoor
namespace Go.Proofs.YtggodknnfpegmaaDoor
open Go.RowKit
attribute [local go_sem] Oper.semAt_some
namespace Ex

/-- The rows of a family of sets: what List answers of each. -/
def famB (nl : Nat) (G : List (Nat × List Bool)) : List (List Int) := G.map fun x => bitsTo (bitsOf x.2) (nl + 2)
theorem famB_at {nl : Nat} {G : List (Nat × List Bool)} {i : Nat} {x : Nat × List Bool} (h : G[i]? = some x) : (famB nl G)[i]? = some (bitsTo (bitsOf x.2) (nl + 2)) := by unfold famB; rw [List.getElem?_map, h]; rfl
set_option linter.unusedSimpArgs false in
set_option maxRecDepth 100000 in
set_option maxHeartbeats 4000000 in
/-- sameSets of the law: rows against a family of sets. -/
theorem sameSetsS_is (nl : Nat) (a1 : Option Addr) (n1 c1 gf n2 c2 : Nat) (l1 : List (List Int)) (G : List (Nat × List Bool)) (w : World) (hnl : nl ≤ 64) (e1 : l1.length = n1) (e2 : G.length = n2) (hc2 : n2 ≤ c2) (hn2 : n2 ≤ 128) (h1 : RowsR w (.slice a1 n1 c1) l1) (h2 : FamR w gf nl G) :
    Calls Tryd.prog 29 #[.slice a1 n1 c1, .slice (some ⟨gf, 0, none⟩) n2 c2] w fun e w' => e = .returned (.bool (decide (l1 = famB nl G))) ∧ Kept w w' := by
  obtain ⟨_, _, q1, hc1, hn1⟩ := SliceOf.len h1
  simp only [Value.slice.injEq] at q1
  obtain ⟨rfl, en1, rfl⟩ := q1
  clear en1
  rw [e1] at hc1 hn1
  have g1 : (n1 : Int) ≤ 17592186044416 := by omega
  have g2 : (n2 : Int) ≤ 128 := by omega
  obtain ⟨m, hm⟩ : ∃ m, nl + 2 = m := ⟨_, rfl⟩
  have HMM := hide1 hm
  have gm : m ≤ 66 := by omega
  have H1 := hide1 h1
  have H2 := hide1 h2
  have E1 := hide1 e1
  have E2 := hide1 e2
  have HL2 : Hid ((famB nl G).length = n2) := by show _ = _; unfold famB; rw [List.length_map]; exact e2
  clear h1 h2 e1 e2 hm
  go_enter Tryd.func29, Tryd.ntmps29
  by_cases hn : n1 = n2
  · subst hn
    have hb0 : ((n1 : Int) != (n1 : Int)) = false := by simp
    go_wp2_with fail
    go_loopw [5] (SrI l1 (famB nl G) w) (fun i _ => n1 - (intOf i).toNat)
    case atStart => exact ⟨0, rfl, Nat.zero_le _, rfl, Kept.refl w⟩
    case round =>
      obtain ⟨j, rfl, hj, HT, HKr⟩ := hrel
      rw [E1.out] at hj
      by_cases hlt : (j : Int) < (n1 : Int)
      · obtain ⟨x, hx⟩ : ∃ x, l1[j]? = some x := ⟨_, List.getElem?_eq_getElem (by have := E1.out; omega)⟩
        obtain ⟨⟨gy, ms⟩, hy⟩ : ∃ y, G[j]? = some y := ⟨_, List.getElem?_eq_getElem (by have := E2.out; omega)⟩
        obtain ⟨b1, o1, u1, ea1, k1, r1⟩ := (H1.out.keep HKr.out).at_ hx
        have k2 := (H2.out.keep HKr.out).cell j _ hy
        have HTB := hide1 ((H2.out.keep HKr.out).tab j _ hy)
        have hyl := famB_at (nl := nl) hy
        obtain ⟨y, hyv⟩ : ∃ y, bitsTo (bitsOf ms) (nl + 2) = y := ⟨_, rfl⟩
        simp only at hyl k2
        rw [hyv] at hyl
        rw [HMM.out] at hyv k2
        have HYV := hide1 hyv
        obtain ⟨h5, h6⟩ := row_two HT.out hx hyl
        have H5 := hide1 h5
        have H6 := hide1 h6
        subst ea1
        obtain ⟨m1, hm1⟩ : ∃ m1, x.length = m1 := ⟨_, rfl⟩
        obtain ⟨m2, hm2⟩ : ∃ m2, y.length = m2 := ⟨_, rfl⟩
        have HYS : Hid (y.length ≤ 17592186044416) := by
          show _ ≤ _
          rw [← hyv]
          exact Nat.le_trans (bitsTo_len _ _) (by omega)
        obtain ⟨a3, c3, rfl, en3, en4⟩ := SliceOf.len r1
        clear en3 en4
        rw [hm1] at r1 k1
        have R1 := hide1 r1
        have M1 := hide1 hm1
        have M2 := hide1 hm2
        have HML : Hid (ms.length = m) := by show _ = _; rw [← HMM.out]; exact HTB.out.2
        have gj1 : (j : Int) < (c1 : Int) := by omega
        have gj2 : (j : Int) < (c2 : Int) := by omega
        obtain ⟨bv, hbv⟩ : ∃ bv, decide (x = y) = bv := ⟨_, rfl⟩
        have HBV := hide1 hbv
        clear hx hy h5 h6 r1 hm1 hm2 hbv hyv hyl
        go_upto_region 6 with fail
        have q1 := keeps k1
        have q2 := keeps k2
        have hkr : Kept wr wr := Kept.refl wr
        go_region_held3 (fun w' => Kept wr w') (first | assumption | exact Kept.refl _ | exact gtrans (by assumption) (by assumption))
          (first
          | (go_at_call 57; refine (dList_is gy ms m m _ HML.out gm (Nat.le_refl _) (HTB.out.1.keep (by assumption))).mono ?_; rintro e w10 ⟨⟨v, rfl, ho⟩, hk10⟩; rw [HYV.out] at ho; have r2 := ho.read HYS.out; obtain ⟨a4, c4, ev, en5, en6⟩ := SliceOf.len r2; rw [M2.out] at ev; subst ev; have R2 := hide1 r2; have k10 : Kept wr w10 := gtrans (by assumption) hk10; have K10 := hide1 k10; clear hk10 ho r2 en5 en6)
          | (go_at_call 12; refine (sameIntsS_is a3 a4 m1 c3 m2 c4 x y _ M1.out M2.out (R1.out.keep (by assumption)) (R2.out.keep (by first | assumption | exact Kept.refl _ | exact drewN_kept _ _))).mono ?_; rintro e w11 ⟨rfl, hk11⟩; rw [HBV.out]; have k11 : Kept wr w11 := gtrans (by assumption) hk11))
        have HK11 := hide1 k11
        clear q1 q2 hkr hk11 k11 k1 k2
        cases bv
        · have HT2 := hide1 (H6.out (of_decide_eq_false HBV.out))
          go_wp2_with fail
          go_ret
          exact ⟨by rw [decide_eq_false HT2.out]; rfl, gtrans HKr.out HK11.out⟩
        · have HT2 := hide1 (H5.out (of_decide_eq_true HBV.out))
          go_wp2_with fail
          go_roundw
          case rel => exact ⟨j + 1, by go_num, by rw [E1.out]; omega, HT2, gtrans HKr.out HK11.out⟩
          case measure => simp [intOf]; omega
      · have HE : Hid (l1 = famB nl G) := by
          have h := HT.out
          rw [List.take_of_length_le (by have := E1.out; omega), List.take_of_length_le (by have := HL2.out; omega)] at h
          exact h
        go_wp2_with fail
        go_ret
        exact ⟨by rw [decide_eq_true HE.out]; rfl, HKr.out⟩
  · have hb0 : ((n1 : Int) != (n2 : Int)) = true := by simp; omega
    have HNE : Hid (l1 ≠ famB nl G) := fun e => hn (by rw [← E1.out, ← HL2.out, e])
    go_wp2_with fail
    go_ret
    exact ⟨by rw [decide_eq_false HNE.out]; rfl, Kept.refl w⟩

end Ex
end Go.Proofs.YtggodknnfpegmaaDoor
namespace Go.Proofs.YtggodknnfpegmaaDoor
open Go.RowKit
attribute [local go_sem] Oper.semAt_some
namespace Ex

/-- All that a spec in order tells. -/
theorem check_all {k : Nat} {lex : List (LexM k)} {ps : List ProdM} {nn nl : Nat} {st : Int} (hlex : lex.length = nl) (hq : CheckQ lex ps nn nl st (0, 0)) : (nl ≤ 64 ∧ nn ≤ 128 ∧ 0 ≤ st ∧ st < (nn : Int)) ∧ (∀ p ∈ ps, p.2.length ≤ 16) ∧ ∀ p ∈ ps, (0 ≤ p.1 ∧ p.1 < (nn : Int)) ∧ ∀ x ∈ p.2, symErr lex nn x = 0 := by
  obtain ⟨a, h0, h1⟩ := hq
  rcases h1 with ⟨hn, e⟩ | ⟨z0, h1⟩
  · rw [← e] at hn; exact absurd rfl hn
  have p1 := (passed_zero lex ps nn nl st).next (by omega) h0 z0
  obtain ⟨a2, h2, h3⟩ := h1
  rcases h3 with ⟨hn, e⟩ | ⟨z1, _⟩
  · rw [← e] at hn; exact absurd rfl hn
  have p2 := p1.next (by omega) h2 z1
  obtain ⟨h1, _, _⟩ := p2.facts hlex (Nat.le_refl _)
  refine ⟨h1, fun p hp => ?_, p2.exact hlex (Nat.le_refl _)⟩
  have hl := p2.long (by omega)
  unfold longB at hl
  simp only [Bool.or_eq_false_iff, List.any_eq_false, decide_eq_true_eq] at hl
  have := hl.2 p hp
  omega
section
variable {k : Nat} {lex : List (LexM k)} {ps : List ProdM} {nn nl : Nat} {st : Int} {e : Ending} {w w' : World}
theorem ask_ok {Ok : Value → World → Prop} (h : AskR lex ps nn nl st Ok w e w') (hq : CheckQ lex ps nn nl st (0, 0)) : ∃ v, e = .returned (.tuple #[v, .agg #[.int .i64 0, .int .i64 0, .string ⟨#[]⟩]]) ∧ Ok v w' ∧ Kept w w' := by
  obtain ⟨y, hy, hk, h⟩ := h
  have := checkQ_one hy hq
  subst this
  rcases h with ⟨h, _⟩ | ⟨_, v, h1, h2⟩
  · exact absurd rfl h
  · exact ⟨v, h1, h2, hk⟩
theorem asky_ok (h : AskY lex ps nn nl st w e w') (hq : CheckQ lex ps nn nl st (0, 0)) : ∃ xe xa v, e = .returned (.tuple #[v, .agg #[.int .i64 xe, .int .i64 xa, .string ⟨#[]⟩]]) ∧ YldO nl ps nn w.heap.size (xe, xa) v w' ∧ Kept w w' := by
  obtain ⟨y, hy, hk, h⟩ := h
  have := checkQ_one hy hq
  subst this
  rcases h with ⟨h, _⟩ | ⟨_, ⟨xe, xa⟩, v, h1, h2⟩
  · exact absurd rfl h
  · exact ⟨xe, xa, v, h1, h2, hk⟩
end
/-- Which names can be empty, as a list. -/
def NullA (ps : List ProdM) (nn : Nat) (l : List Bool) : Prop := l.length = nn ∧ ∀ i x, l[i]? = some x → (x = true ↔ Mk false ps i)
theorem NullA.one {ps : List ProdM} {nn : Nat} {l l' : List Bool} (h : NullA ps nn l) (h' : NullA ps nn l') : l = l' := by
  apply List.ext_getElem (by rw [h.1, h'.1])
  intro i h1 h2
  have e1 := h.2 i _ (List.getElem?_eq_getElem h1)
  have e2 := h'.2 i _ (List.getElem?_eq_getElem h2)
  rw [Bool.eq_iff_iff]
  exact e1.trans e2.symm
theorem null_a {ps : List ProdM} {nn base : Nat} {v : Value} {w' : World} (hn : nn ≤ 128) (h : NullOk ps nn base v w') : ∃ g l, v = .slice (some ⟨g, 0, none⟩) nn nn ∧ NullA ps nn l ∧ BoolsR w' (.slice (some ⟨g, 0, none⟩) nn nn) l := by
  obtain ⟨E, h1, h2⟩ := h
  have hl : ((List.range nn).map fun i => E.testBit i).length = nn := by simp
  have h3 := h2.read (by rw [hl]; omega)
  obtain ⟨g, rfl, _, _⟩ := h2
  rw [hl] at h3
  refine ⟨g, _, by rw [hl], ⟨hl, fun i x hx => ?_⟩, h3⟩
  rw [List.getElem?_map] at hx
  by_cases hi : i < nn
  · rw [List.getElem?_range hi] at hx
    have hx : E.testBit i = x := by simpa using hx
    rw [← hx]
    exact h1 i
  · rw [List.getElem?_eq_none (by simp; omega)] at hx
    cases hx
theorem null_d {ps : List ProdM} {nn : Nat} {w : World} {e : Ending} {w' : World} (hn : nn ≤ 128) (h : NullR ps nn w e w') : ∃ g l, e = .returned (.slice (some ⟨g, 0, none⟩) nn nn) ∧ NullA ps nn l ∧ BoolsR w' (.slice (some ⟨g, 0, none⟩) nn nn) l ∧ Kept w w' := by
  obtain ⟨ms, g, rfl, h1, h2, h3, h4, h5⟩ := h
  have h6 : BoolsO w' 0 (.slice (some ⟨g, 0, none⟩) ms.length ms.length) ms := ⟨g, rfl, Nat.zero_le _, h4⟩
  have h7 := h6.read (by omega)
  rw [h1] at h7
  exact ⟨g, ms, rfl, ⟨h1, fun i x hx => by rw [← h2 i, bits_at hx]⟩, h7, h5⟩
/-- The rows that a family of sets answers. -/
def AnsF (P : Nat × Nat → Prop) (nn : Nat) (l : List (List Int)) : Prop := ∃ F : Nat → Nat, (∀ x, famS F x ↔ P x) ∧ l = (List.range nn).map fun i => bitsTo (F i) 128
theorem ans_len {P : Nat × Nat → Prop} {nn : Nat} {l : List (List Int)} (h : AnsF P nn l) : l.length = nn := by
  obtain ⟨F, _, rfl⟩ := h
  simp
theorem ans_eq {P : Nat × Nat → Prop} {nn nl gf base : Nat} {w : World} {l : List (List Int)} {G : List (Nat × List Bool)} (h : AnsF P nn l) (hnl : nl ≤ 64) (hG : FmS nl nn gf base w G) (hP : ∀ x, famS (famF G) x ↔ P x) : l = famB nl G := by
  obtain ⟨F, h1, rfl⟩ := h
  have hFG : ∀ i, F i = famF G i := fun i => Nat.eq_of_testBit_eq fun b => by
    have := (h1 (i, b)).trans (hP (i, b)).symm
    unfold famS at this
    rw [Bool.eq_iff_iff]
    exact this
  apply List.ext_getElem (by unfold famB; simp [hG.len])
  intro i h2 h3
  have hi : i < nn := by simpa using h2
  obtain ⟨x, hx⟩ : ∃ x, G[i]? = some x := ⟨_, List.getElem?_eq_getElem (by rw [hG.len]; exact hi)⟩
  have h4 := famB_at (nl := nl) hx
  rw [List.getElem?_eq_getElem h3] at h4
  injection h4 with h4
  rw [h4, List.getElem_map, List.getElem_range, hFG, famF_at hx]
  have h5 := (hG.fam.tab i x hx).2
  obtain ⟨m, hm⟩ : ∃ m, 128 = nl + 2 + m := ⟨128 - (nl + 2), by omega⟩
  rw [hm]
  exact bitsTo_none _ (nl + 2) m (fun b h6 _ => bits_past (by omega))
theorem rows_a {nn base : Nat} {v : Value} {w' : World} {F : Nat → Nat} (hn : nn ≤ 128) (h : RowsO w' base v ((List.range nn).map fun i => bitsTo (F i) 128)) : ∃ g, v = .slice (some ⟨g, 0, none⟩) nn nn ∧ RowsR w' (.slice (some ⟨g, 0, none⟩) nn nn) ((List.range nn).map fun i => bitsTo (F i) 128) := by
  have hl : ((List.range nn).map fun i => bitsTo (F i) 128).length = nn := by simp
  have h3 := h.read (by rw [hl]; omega) (fun l hl => by
    obtain ⟨i, _, rfl⟩ := List.mem_map.1 hl
    exact Nat.le_trans (bitsTo_len _ _) (by omega))
  obtain ⟨g, rfl⟩ := h.form
  rw [hl] at h3
  exact ⟨g, by rw [hl], h3⟩
theorem first_a {nl nn base : Nat} {ps : List ProdM} {v : Value} {w' : World} (hn : nn ≤ 128) (h : FirstOk nl ps nn base v w') : ∃ g l, v = .slice (some ⟨g, 0, none⟩) nn nn ∧ AnsF (Fi nl (Mk false ps) ps) nn l ∧ RowsR w' (.slice (some ⟨g, 0, none⟩) nn nn) l := by
  obtain ⟨F, _, h2, h3⟩ := h
  obtain ⟨g, h4, h5⟩ := rows_a hn h3
  exact ⟨g, _, h4, ⟨F, h2, rfl⟩, h5⟩
theorem follow_a {nl st nn base : Nat} {ps : List ProdM} {v : Value} {w' : World} (hn : nn ≤ 128) (h : FollowOk nl st ps nn base v w') : ∃ g l, v = .slice (some ⟨g, 0, none⟩) nn nn ∧ AnsF (Fo nl st (Mk false ps) (Fi nl (Mk false ps) ps) ps) nn l ∧ RowsR w' (.slice (some ⟨g, 0, none⟩) nn nn) l := by
  obtain ⟨F, G, _, h2, h3, h4⟩ := h
  have e : famS F = Fi nl (Mk false ps) ps := funext fun x => propext (h2 x)
  rw [e] at h3
  obtain ⟨g, h5, h6⟩ := rows_a hn h4
  exact ⟨g, _, h5, ⟨G, h3, rfl⟩, h6⟩
theorem first_d {nl nn : Nat} {ps : List ProdM} {w : World} {e : Ending} {w' : World} {l : List (List Int)} (hnl : nl ≤ 64) (ha : AnsF (Fi nl (Mk false ps) ps) nn l) (h : FirR nl nn ps w e w') : ∃ gf cf G, e = .returned (.slice (some ⟨gf, 0, none⟩) nn cf) ∧ nn ≤ cf ∧ G.length = nn ∧ FamR w' gf nl G ∧ decide (l = famB nl G) = true ∧ Kept w w' := by
  obtain ⟨gf, cf, G, h1, h2, h3, h4, h5⟩ := h
  exact ⟨gf, cf, G, h1, h2, h3.len, h3.fam, decide_eq_true (ans_eq ha hnl h3 h4), h5⟩
theorem follow_d {nl st nn : Nat} {ps : List ProdM} {w : World} {e : Ending} {w' : World} {l : List (List Int)} (hnl : nl ≤ 64) (ha : AnsF (Fo nl st (Mk false ps) (Fi nl (Mk false ps) ps) ps) nn l) (h : FolR nl nn st ps w e w') : ∃ gf cf G, e = .returned (.slice (some ⟨gf, 0, none⟩) nn cf) ∧ nn ≤ cf ∧ G.length = nn ∧ FamR w' gf nl G ∧ decide (l = famB nl G) = true ∧ Kept w w' := by
  obtain ⟨gf, cf, G, F, h1, h2, h3, h4, h6, h5⟩ := h
  have e : famS F = Fi nl (Mk false ps) ps := funext fun x => propext (h4 x)
  rw [e] at h6
  exact ⟨gf, cf, G, h1, h2, h3.len, h3.fam, decide_eq_true (ans_eq ha hnl h3 h6), h5⟩
theorem rows_nil (w : World) : RowsR w (.slice none 0 0) [] := ⟨none, 0, rfl, Nat.le_refl _, Nat.zero_le _, .inl rfl⟩
/-- Yields, the program's and the document's. -/
theorem yields_both {nl nn base : Nat} {ps : List ProdM} {xe xa : Int} {v : Value} {w1 w w' : World} {e : Ending} (hn : nn ≤ 128) (h : YldO nl ps nn base (xe, xa) v w1) (hd : YldD nl nn ps w e w') : ∃ a1 n a2 l, v = .slice a1 n n ∧ e = .returned (.tuple #[.slice a2 n n, .int .i64 xa, .int .i64 xe]) ∧ (xe = 0 → xa = 0) ∧ l.length = n ∧ RowsR w1 (.slice a1 n n) l ∧ RowsR w' (.slice a2 n n) l ∧ Kept w w' := by
  obtain ⟨L, hok, hy, h⟩ := h
  obtain ⟨L', hy', hk, hd⟩ := hd
  have e : L' = L := funext fun n => hy'.one hy n
  subst e
  rcases h with ⟨i, h1, h2, h3, h4, h5⟩ | ⟨h1, h2, h3⟩
  · rcases hd with ⟨i', d1, d2, d3, d4⟩ | ⟨d1, _⟩
    · have ei : i' = i := by
        rcases Nat.lt_trichotomy i' i with h | h | h
        · exact absurd d2 (h3 i' h)
        · exact h
        · exact absurd h2 (d3 i h)
      subst ei
      injection h4 with h6 h7
      subst h6 h7
      exact ⟨none, 0, none, [], h5, d4, fun h => absurd h (by decide), rfl, rows_nil _, rows_nil _, hk⟩
    · exact absurd h2 (d1 i h1)
  · rcases hd with ⟨i', d1, d2, _⟩ | ⟨_, gr, d1, d2⟩
    · exact absurd d2 (h1 i' d1)
    · injection h2 with h6 h7
      subst h6 h7
      have hl : ((List.range nn).map fun i => (L' i).getD []).length = nn := by simp
      have h4 := h3.read (by rw [hl]; omega) (fun l hl => by
        obtain ⟨i, _, rfl⟩ := List.mem_map.1 hl
        cases hi : L' i with
        | none => exact Nat.zero_le _
        | some r =>
          have := (hok i r hi).2
          show r.length ≤ _
          omega)
      obtain ⟨g, rfl⟩ := h3.form
      rw [hl] at h4
      exact ⟨some ⟨g, 0, none⟩, nn, some ⟨gr, 0, none⟩, _, by rw [hl], d1, fun _ => rfl, hl, h4, d2, hk⟩

end Ex
end Go.Proofs.YtggodknnfpegmaaDoor
