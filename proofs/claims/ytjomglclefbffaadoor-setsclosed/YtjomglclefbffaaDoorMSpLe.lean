import Derived.Test.YtjomglclefbffaaDoorMSpMo
import Derived.BigQuiet
import Derived.Deep.CutRange
namespace Go.Proofs.YtjomglclefbffaaDoor
open Go.RowKit
attribute [local go_sem] Oper.semAt_some
namespace Ex

def LeI (l1 l2 : List Int) (W : World) (vi : Value) (wr : World) : Prop := ∃ j : Nat, vi = .int .i64 (j : Int) ∧ j ≤ l1.length ∧ Hid (lessI l1 l2 = lessI (l1.drop j) (l2.drop j)) ∧ Hid (Kept W wr)
theorem drop_at {l : List Int} {j : Nat} {x : Int} (h : l[j]? = some x) : l.drop j = x :: l.drop (j + 1) := by
  obtain ⟨h1, h2⟩ := List.getElem?_eq_some_iff.1 h
  rw [List.drop_eq_getElem_cons h1, h2]
set_option linter.unusedSimpArgs false in
set_option maxRecDepth 100000 in
set_option maxHeartbeats 4000000 in
/-- Does the one row stand ahead of the other? -/
theorem gLess_is (a1 a2 : Option Addr) (n1 c1 n2 c2 : Nat) (l1 l2 : List Int) (w : World) (e1 : l1.length = n1) (e2 : l2.length = n2) (h1 : IntsR w (.slice a1 n1 c1) l1) (h2 : IntsR w (.slice a2 n2 c2) l2) :
    Calls Tryd.prog 14 #[.slice a1 n1 c1, .slice a2 n2 c2] w fun e w' => e = .returned (.bool (shorter l1 l2)) ∧ Kept w w' := by
  obtain ⟨_, _, q1, hc1, hn1⟩ := SliceOf.len h1
  obtain ⟨_, _, q2, hc2, hn2⟩ := SliceOf.len h2
  simp only [Value.slice.injEq] at q1 q2
  obtain ⟨rfl, en1, rfl⟩ := q1
  obtain ⟨rfl, en2, rfl⟩ := q2
  clear en1 en2
  rw [e1] at hc1 hn1
  rw [e2] at hc2 hn2
  have g1 : (n1 : Int) ≤ 17592186044416 := by omega
  have g2 : (n2 : Int) ≤ 17592186044416 := by omega
  have H1 := hide1 h1
  have H2 := hide1 h2
  have E1 := hide1 e1
  have E2 := hide1 e2
  clear h1 h2 e1 e2
  go_enter Tryd.func14, Tryd.ntmps14
  by_cases hn : n1 = n2
  · subst hn
    have HLL : Hid (shorter l1 l2 = lessI l1 l2) := hide1 (by unfold shorter; rw [E1.out, E2.out]; simp)
    have hb0 : ((n1 : Int) != (n1 : Int)) = false := by simp
    go_wp2_with fail
    go_loopw [5] (LeI l1 l2 w) (fun i _ => n1 - (intOf i).toNat)
    case atStart => exact ⟨0, rfl, Nat.zero_le _, rfl, Kept.refl w⟩
    case round =>
      obtain ⟨j, rfl, hj, HT, HKr⟩ := hrel
      rw [E1.out] at hj
      by_cases hlt : (j : Int) < (n1 : Int)
      · obtain ⟨x, hx⟩ : ∃ x, l1[j]? = some x := ⟨_, List.getElem?_eq_getElem (by have := E1.out; omega)⟩
        obtain ⟨y, hy⟩ : ∃ y, l2[j]? = some y := ⟨_, List.getElem?_eq_getElem (by have := E2.out; omega)⟩
        obtain ⟨b1, o1, ea1, k1⟩ := (H1.out.keep HKr.out).at_ hx
        obtain ⟨b2, o2, ea2, k2⟩ := (H2.out.keep HKr.out).at_ hy
        have HD : Hid (lessI l1 l2 = (decide (x < y) || (x == y && lessI (l1.drop (j + 1)) (l2.drop (j + 1))))) := hide1 (by rw [HT.out, drop_at hx, drop_at hy]; rfl)
        subst ea1 ea2
        have gj1 : (j : Int) < (c1 : Int) := by omega
        have gj2 : (j : Int) < (c2 : Int) := by omega
        clear hx hy
        by_cases hxy : x = y
        · have hb : (x != y) = false := by simp [hxy]
          have HT2 : Hid (lessI l1 l2 = lessI (l1.drop (j + 1)) (l2.drop (j + 1))) := hide1 (by rw [HD.out, hxy]; simp)
          clear hxy
          go_upto_region 6 with fail
          go_quiet (fail)
          go_wp2_with fail
          go_roundw
          case rel => exact ⟨j + 1, by go_num, by rw [E1.out]; omega, HT2, gtrans HKr.out (drewN_kept _ _)⟩
          case measure => simp [intOf]; omega
        · have hb : (x != y) = true := by simpa using hxy
          have HT2 : Hid (lessI l1 l2 = decide (x < y)) := hide1 (by rw [HD.out]; simp [hxy])
          clear hxy
          go_upto_region 6 with fail
          go_quiet (fail)
          have HK6 := hide1 (gtrans HKr.out (drewN_kept wr nq))
          have k1' := grown_cell (drewN_kept wr nq) k1
          have k2' := grown_cell (drewN_kept wr nq) k2
          clear k1 k2
          generalize wr.drewN nq = W6 at HK6 k1' k2' ⊢
          by_cases hxl : x < y
          · have HT3 : Hid (shorter l1 l2 = true) := hide1 (by rw [HLL.out, HT2.out]; simpa using hxl)
            go_upto_region 7 with fail
            go_quiet (fail)
            go_wp2_with fail
            go_ret
            exact ⟨by rw [HT3.out]; rfl, gtrans HK6.out (drewN_kept _ _)⟩
          · have HT3 : Hid (shorter l1 l2 = false) := hide1 (by rw [HLL.out, HT2.out]; simpa using hxl)
            go_upto_region 7 with fail
            go_quiet (fail)
            go_wp2_with fail
            go_ret
            exact ⟨by rw [HT3.out]; rfl, gtrans HK6.out (drewN_kept _ _)⟩
      · have HE : Hid (shorter l1 l2 = false) := hide1 (by
          rw [HLL.out, HT.out, List.drop_of_length_le (by have := E1.out; omega), List.drop_of_length_le (by have := E2.out; omega)]
          rfl)
        go_wp2_with fail
        go_ret
        exact ⟨by rw [HE.out]; rfl, HKr.out⟩
  · have hb0 : ((n1 : Int) != (n2 : Int)) = true := by simp; omega
    by_cases hl : (n1 : Int) < (n2 : Int)
    · have HE : Hid (shorter l1 l2 = true) := hide1 (by unfold shorter; rw [E1.out, E2.out]; simp; left; omega)
      go_wp2_with fail
      go_ret
      exact ⟨by rw [HE.out]; rfl, Kept.refl w⟩
    · have HE : Hid (shorter l1 l2 = false) := hide1 (by unfold shorter; rw [E1.out, E2.out]; simp; omega)
      go_wp2_with fail
      go_ret
      exact ⟨by rw [HE.out]; rfl, Kept.refl w⟩
theorem sym_in {k : Nat} {lex : List (LexM k)} {nn : Nat} {ps : List ProdM} (hall : ∀ n : Nat, n < nn → ∃ p ∈ ps, p.1 = (n : Int)) {y : SymM} (h : symErr lex nn y = 0) : SymIn ps y := by
  unfold symErr at h
  split at h
  · next h1 => exact .inl ⟨h1.1, h1.2.1⟩
  · split at h
    · next h2 =>
      rcases h2 with h2 | h2
      · exact .inr (.inl h2.1)
      · obtain ⟨p, hp, he⟩ := hall y.2.toNat (by omega)
        exact .inr (.inr ⟨h2.1, h2.2.1, p, hp, by omega⟩)
    · exact absurd h (by decide)
/-- What a spec in order tells of its symbols. -/
theorem check_in {k : Nat} {lex : List (LexM k)} {ps : List ProdM} {nn nl : Nat} {st : Int} (hlex : lex.length = nl) (hq : CheckQ lex ps nn nl st (0, 0)) : (nl ≤ 64 ∧ nn ≤ 128 ∧ 0 ≤ st ∧ st < (nn : Int)) ∧ (∀ n : Nat, n < nn → ∃ p ∈ ps, p.1 = (n : Int)) ∧ ∀ p ∈ ps, 0 ≤ p.1 ∧ ∀ y ∈ p.2, SymIn ps y := by
  obtain ⟨_, hpa, a2, a3, a4, _, ⟨q3, z3⟩, _⟩ := checkQ_ok hq rfl
  obtain ⟨h1, hg, _⟩ := hpa.facts hlex (Nat.le_refl 2)
  have hp := hpa.places (by omega)
  unfold placesP at hp
  rw [if_pos h1.2.2] at hp
  have q3 : FirstMiss (Mk true ps) nn 73 a3 := q3
  have hall : ∀ n : Nat, n < nn → ∃ p ∈ ps, p.1 = (n : Int) := fun n hn => by
    obtain ⟨p, hp1, hp2⟩ := miss_none q3 (by decide) z3 n hn (fun m => ∃ p ∈ ps, p.1.toNat = m) (fun p hp _ => ⟨p, hp, rfl⟩)
    exact ⟨p, hp1, by have := (hg p hp1).1.1; omega⟩
  exact ⟨h1, hall, fun p hm => ⟨(hg p hm).1.1, fun y hy => sym_in hall ((places_good hp p hm).2 y hy)⟩⟩

end Ex
end Go.Proofs.YtjomglclefbffaaDoor
namespace Go.Proofs.YtjomglclefbffaaDoor
open Go.RowKit
attribute [local go_sem] Oper.semAt_some
namespace Ex

theorem lHas_yes (a : Option Addr) (m c : Nat) (l : List Int) (n : Int) (w : World) (e1 : l.length = m) (h : IntsR w (.slice a m c) l) (hm : n ∈ l) :
    Calls Tryd.prog 13 #[.slice a m c, .int .i64 n] w fun e w' => e = .returned (.bool true) ∧ w' = w :=
  (lHas_is a m c l n w e1 h).mono fun _ _ ⟨h1, h2⟩ => ⟨by rw [h1, decide_eq_true hm], h2⟩
theorem mak_all (W0 : World) (b : Nat) (x1 x2 : Value) (al ap ak : Option Addr) (nl cl np cp nk ck : Nat) (ps : List ProdM) (pks : List Int) (hW0 : W0.heap.size = b) (hnl : nl ≤ 64) (hnp : np ≤ 512) (hps : ps.length = np) (hpk : pks.length = nk) (hp : ProdsAt W0 (.slice ap np cp) ps) (hk : IntsR W0 (.slice ak nk ck) pks) (hin : ∀ p ∈ ps, (0 ≤ p.1) ∧ ∀ y ∈ p.2, SymIn ps y) : ∀ N, MakC W0 b (.slice al nl cl) x1 x2 (.slice ap np cp) (.slice ak nk ck) nl ps N
  | 0 => fun _ _ st _ _ _ h1 h2 _ _ => absurd h1 (by omega)
  | N + 1 => mak_step W0 b x1 x2 al ap ak nl cl np cp nk ck ps pks N hW0 hnl hnp hps hpk hp hk hin (mak_all W0 b x1 x2 al ap ak nl cl np cp nk ck ps pks hW0 hnl hnp hps hpk hp hk hin N)
theorem bits_mem {A t : Nat} (h : A.testBit t = true) (ht : t < 128) : (t : Int) ∈ bitsTo A 128 := by
  unfold bitsTo
  exact List.mem_map.2 ⟨t, List.mem_filter.2 ⟨List.mem_range.2 ht, h⟩, rfl⟩
theorem bit_lt {A t : Nat} (h : A.testBit t = true) (hA : A < 2 ^ 128) : t < 128 := by
  by_cases e : t < 128
  · exact e
  · rw [Nat.testBit_lt_two_pow (Nat.lt_of_lt_of_le hA (Nat.pow_le_pow_right (by omega) (by omega)))] at h
    cases h
/-- What is told of a name, read off. -/
def NameR (nl : Nat) (ps : List ProdM) (g1 g2 : Nat) (ay : Option Addr) (m : Nat) (fl : Bool) (x : Nat) (w : World) : Prop :=
  (∃ e : Bool, w.cell? ⟨g1, x, none⟩ = some (.bool e) ∧ (Sen nl ps (x, []) → e = true)) ∧
  (∃ (a : Option Addr) (n c : Nat) (l : List Int), w.cell? ⟨g2, x, none⟩ = some (.slice a n c) ∧ l.length = n ∧ IntsR w (.slice a n c) l ∧ ∀ t r, Sen nl ps (x, t :: r) → t ∈ l) ∧
  (fl = false → ∃ (yb yo : Nat) (a : Option Addr) (n c : Nat) (l : List Int), ay = some ⟨yb, yo, none⟩ ∧ x < m ∧ w.cell? ⟨yb, yo + x, none⟩ = some (.slice a n c) ∧ l.length = n ∧ IntsR w (.slice a n c) l ∧ ∀ r, Sen nl ps (x, r) → r.length ≤ 4096 → shorter r l = false)
theorem name_r {nl nn base m : Nat} {ps : List ProdM} {g1 g2 : Nat} {ay : Option Addr} {y : Int × Int} {w : World} (hn : nn ≤ 128)
    (o1 : NullOk ps nn base (.slice (some ⟨g1, 0, none⟩) nn nn) w) (o2 : FirstOk nl ps nn base (.slice (some ⟨g2, 0, none⟩) nn nn) w) (o4 : YldO nl ps nn base y (.slice ay m m) w) (o5 : (y.1 = 0 ∧ m = nn) ∨ (y.1 = 6 ∧ m = 0)) {x : Nat} (hx : x < nn) : NameR nl ps g1 g2 ay m (y.1 == 6) x w := by
  have ln : ∀ {α : Type} (f : Nat → α), ((List.range nn).map f).length = nn := fun f => by simp
  have at_ : ∀ {α : Type} (f : Nat → α), ((List.range nn).map f)[x]? = some (f x) := fun f => by simp [hx]
  refine ⟨?_, ?_, fun hfl => ?_⟩
  · obtain ⟨E, hE, b1⟩ := o1
    obtain ⟨g, o, e1, e2⟩ := (b1.read (by rw [ln]; omega)).at_ (at_ _)
    injection e1 with e1
    injection e1 with e1 e3 _
    subst e1 e3
    rw [Nat.zero_add] at e2
    exact ⟨_, e2, fun h => (hE x).2 ((sen_begins h).1 rfl)⟩
  · obtain ⟨F, hF1, hF, b2⟩ := o2
    have r2 := b2.read (by rw [ln]; omega) (fun l hl => by
      obtain ⟨i, _, rfl⟩ := List.mem_map.1 hl
      exact Nat.le_trans (bits_len _) (by decide))
    obtain ⟨g, o, u, e1, e2, e4⟩ := r2.at_ (at_ _)
    injection e1 with e1
    injection e1 with e1 e3 _
    subst e1 e3
    rw [Nat.zero_add] at e2
    obtain ⟨a, c, rfl, _⟩ := SliceOf.len e4
    refine ⟨a, _, c, _, e2, rfl, e4, fun t r h => ?_⟩
    obtain ⟨v, rfl, hv⟩ := (sen_begins h).2 t r rfl
    have hb : famS F (x, v) := (hF _).2 hv
    exact bits_mem hb (bit_lt hb (hF1 x))
  · obtain ⟨L, okL, hL, hor⟩ := o4
    rcases hor with ⟨i, hi, hLi, hk, rfl, hv⟩ | ⟨hall, rfl, hr⟩
    · exact absurd hfl (by simp)
    · have hm : m = nn := by rcases o5 with h | h; exact h.2; exact absurd h.1 (by decide)
      subst hm
      have r4 := hr.read (by rw [ln]; omega) (fun l hl => by
        obtain ⟨i, _, rfl⟩ := List.mem_map.1 hl
        cases e : L i with
        | none => simp
        | some r => exact Nat.le_trans (okL i r e).2 (by decide))
      obtain ⟨g, o, u, e1, e2, e4⟩ := r4.at_ (at_ _)
      obtain ⟨a, c, rfl, _⟩ := SliceOf.len e4
      refine ⟨g, o, a, _, c, _, e1, hx, e2, rfl, e4, fun r h hl => ?_⟩
      obtain ⟨r', h1, h2⟩ := sen_best hL h hl
      rw [h1]
      exact h2

end Ex
end Go.Proofs.YtjomglclefbffaaDoor
namespace Go.Proofs.YtjomglclefbffaaDoor
open Go.RowKit
attribute [local go_sem] Oper.semAt_some
namespace Ex

theorem tp_start {W2 : World} {x0 x1 x2 x3 pk : Value} {b : Nat} (hb : W2.heap.size = b) : Tp W2 b x0 x1 x2 x3 pk 0 [] 0 (.slice none 0 0) (W2.alloc (.cells #[x0, x1, x2, x3, pk, .int .i64 0, .slice none 0 0, .int .i64 0] 42)) :=
  ⟨⟨none, 0, rfl⟩, by rw [← hb]; exact heap_alloc_new W2 _, IntsO.nil _ _, (Kept.refl W2).alloc _ _, Nat.le_refl _, Nat.le_refl _⟩
set_option linter.unusedSimpArgs false in
set_option maxRecDepth 100000 in
set_option maxHeartbeats 16000000 in
/-- SetsMake. -/
theorem make_is (k : Nat) (lex : List (LexM k)) (ps : List ProdM) (al an ap : Option Addr) (nl cl nn cn np cp : Nat) (st name : Int) (a2 : Option Addr) (n2 c2 : Nat) (tw : List Int) (w : World) (hnn : nn ≤ 17592186044416) (hlex : lex.length = nl) (hps : ps.length = np) (htw : tw.length = n2) (hl : LexAt w k (.slice al nl cl) lex) (hp : ProdsAt w (.slice ap np cp) ps) (ht : IntsR w (.slice a2 n2 c2) tw) (hT : TabAt w) :
    Calls Tryd.prog 4 #[.agg #[.slice al nl cl, .slice an nn cn, .int .i64 st, .slice ap np cp], .int .i64 name, .slice a2 n2 c2] w fun e w' => e = .returned (.bool true) ∧ Kept w w' := by
  obtain ⟨_, _, e1, hc, hn⟩ := hp.len
  simp only [Value.slice.injEq] at e1
  obtain ⟨rfl, en, rfl⟩ := e1
  clear en
  rw [hps] at hc hn
  have gn : (np : Int) ≤ 17592186044416 := by omega
  obtain ⟨_, _, e1, hc2, hn2⟩ := SliceOf.len ht
  simp only [Value.slice.injEq] at e1
  obtain ⟨rfl, en, rfl⟩ := e1
  clear en
  rw [htw] at hc2 hn2
  have gn2 : (n2 : Int) ≤ 17592186044416 := by omega
  have HB := hide1 (SBox.new w (.slice al nl cl) (.slice an nn cn) (.int .i64 st) (.slice ap np cp))
  have HK : Hid (Kept w (w.alloc (.cells #[.slice al nl cl, .slice an nn cn, .int .i64 st, .slice ap np cp] 26))) := (Kept.refl w).alloc _ _
  have HP := hide1 hp
  have HL := hide1 hl
  have HPS := hide1 hps
  have HLEN := hide1 hlex
  have HTW := hide1 htw
  have HTI := hide1 ht
  have HT := hide1 hT
  have HNN := hide1 hnn
  clear hp hps hl hlex hnn hT ht htw
  go_enter Tryd.func4, Tryd.ntmps4
  go_upto_region 1 with fail
  obtain ⟨W, hW⟩ : ∃ W, w.alloc (.cells #[.slice al nl cl, .slice an nn cn, .int .i64 st, .slice ap np cp] 26) = W := ⟨_, rfl⟩
  rw [hW] at HB HK ⊢
  clear hW
  obtain ⟨sb, hsb⟩ : ∃ sb, w.heap.size = sb := ⟨_, rfl⟩
  rw [hsb] at HB ⊢
  clear hsb
  obtain ⟨s0, s1, s2, s3⟩ := HB.out.facts
  go_wp2_with fail
  refine (told_is k lex ps al an ap nl cl nn cn np cp st _ HNN.out HLEN.out HPS.out (HL.out.keep HK.out) (HP.out.keep HK.out) (HT.out.keep HK.out)).mono ?_
  rintro e w1 ⟨x, hq, hk1, hor⟩
  have HQ := hide1 hq
  have HK1 := hide1 hk1
  have HB1 := hide1 (HB.out.keep hk1)
  have HKw1 := hide1 (gtrans HK.out hk1)
  clear s0 s1 s2 s3 hq hk1
  obtain ⟨s0, s1, s2, s3⟩ := HB1.out.facts
  rcases hor with ⟨hx0, rfl⟩ | ⟨hx0, g1, g2, g3, ay, m, y, rfl, o1, o2, o3, o4, o5⟩
  · go_upto_region 2 with fail
    clear s0 s1 s2 s3
    have HA1 : Hid (Kept w1 (w1.alloc (.cells #[.slice none 0 0, .slice none 0 0, .slice none 0 0, .slice none 0 0, .bool false] 31))) := (Kept.refl w1).alloc _ _
    obtain ⟨W2, hW2⟩ : ∃ W2, w1.alloc (.cells #[.slice none 0 0, .slice none 0 0, .slice none 0 0, .slice none 0 0, .bool false] 31) = W2 := ⟨_, rfl⟩
    rw [hW2] at HA1 ⊢
    clear hW2
    have HKw2 := hide1 (gtrans HKw1.out HA1.out)
    obtain ⟨s0, s1, s2, s3⟩ := (HB1.out.keep HA1.out).facts
    go_wp2_with (go_at_call 10; refine (head_is7 _ (HT.out.keep HKw2.out)).mono ?_; rintro e w9 ⟨rfl, hk9⟩; have HK9 := hide1 hk9; clear hk9)
    go_ret
    exact ⟨rfl, gtrans HKw2.out HK9.out⟩
  · have HQ0 : Hid (CheckQ lex ps nn nl st (0, 0)) := by
      have h := HQ.out
      rw [(checkQ_ok h hx0).1] at h
      exact h
    obtain ⟨fl, hfl⟩ : ∃ fl, (y.1 == 6) = fl := ⟨_, rfl⟩
    rw [hfl]
    have HFL := hide1 hfl
    have O1 := hide1 o1
    have O2 := hide1 o2
    have O3 := hide1 o3
    have O4 := hide1 o4
    have O5 := hide1 o5
    clear hfl o1 o2 o3 o4 o5 hx0
    go_upto_region 2 with fail
    clear s0 s1 s2 s3
    have HA1 : Hid (Kept w1 (w1.alloc (.cells #[.slice (some ⟨g1, 0, none⟩) nn nn, .slice (some ⟨g2, 0, none⟩) nn nn, .slice (some ⟨g3, 0, none⟩) nn nn, .slice ay m m, .bool fl] 31))) := (Kept.refl w1).alloc _ _
    have HTD : Hid (TdBox (w1.alloc (.cells #[.slice (some ⟨g1, 0, none⟩) nn nn, .slice (some ⟨g2, 0, none⟩) nn nn, .slice (some ⟨g3, 0, none⟩) nn nn, .slice ay m m, .bool fl] 31)) w1.heap.size (.slice (some ⟨g1, 0, none⟩) nn nn) (.slice (some ⟨g2, 0, none⟩) nn nn) (.slice (some ⟨g3, 0, none⟩) nn nn) (.slice ay m m) fl) := heap_alloc_new w1 _
    obtain ⟨W2, hW2⟩ : ∃ W2, w1.alloc (.cells #[.slice (some ⟨g1, 0, none⟩) nn nn, .slice (some ⟨g2, 0, none⟩) nn nn, .slice (some ⟨g3, 0, none⟩) nn nn, .slice ay m m, .bool fl] 31) = W2 := ⟨_, rfl⟩
    rw [hW2] at HA1 HTD ⊢
    clear hW2
    obtain ⟨tb, htb⟩ : ∃ tb, w1.heap.size = tb := ⟨_, rfl⟩
    rw [htb] at HTD ⊢
    clear htb
    have HKw2 := hide1 (gtrans HKw1.out HA1.out)
    have HB2 := hide1 (HB1.out.keep HA1.out)
    have O12 := hide1 (nullOk_keep O1.out HA1.out)
    have O22 := hide1 (firstOk_keep O2.out HA1.out)
    have O32 := hide1 (followOk_keep O3.out HA1.out)
    have O42 := hide1 (yldO_keep O4.out HA1.out)
    obtain ⟨s0, s1, s2, s3⟩ := HB2.out.facts
    have HCI := hide1 (check_in HLEN.out HQ0.out)
    have h512 : np ≤ 512 := by have := check_512 HQ0.out; have := HPS.out; omega
    have hn64 : nl ≤ 64 := HCI.out.1.1
    have hn128 : nn ≤ 128 := HCI.out.1.2.1
    have gnn : (nn : Int) ≤ 128 := by omega
    by_cases hnn0 : nn = 0
    · subst hnn0
      go_wp2_with (go_at_call 10; refine (head_is7 _ (HT.out.keep HKw2.out)).mono ?_; rintro e w9 ⟨rfl, hk9⟩; have HK9 := hide1 hk9; clear hk9)
      go_ret
      exact ⟨rfl, gtrans HKw2.out HK9.out⟩
    · have hnp0 : ((nn : Int) == 0) = false := by simp; omega
      obtain ⟨xx, hxx, hkr⟩ := tm_round name nn (by omega)
      have HKR := hide1 hkr
      have b1 := Int.tmod_lt_of_pos name (show (0 : Int) < (nn : Int) by omega)
      have b2 := Int.lt_tmod_of_pos name (show (0 : Int) < (nn : Int) by omega)
      obtain ⟨t, ht⟩ : ∃ t, name.tmod (nn : Int) = t := ⟨_, rfl⟩
      rw [ht] at b1 b2 HKR
      clear hkr
      have hz : ¬ (nn : Int) = 0 := by omega
      have hz1 : ¬ (nn : Int) = -1 := by omega
      go_upto_if 37 with fail
      clear ht
      go_cut [10] from 31 to 42 (fun c wx => c = .int .i64 (xx : Int) ∧ wx = W2)
      case first =>
        by_cases h0 : t < 0
        · have HE := hide1 (HKR.out.1 h0)
          go_wp2_with fail
          go_meet
          exact ⟨by rw [HE.out], rfl⟩
        · have HE := hide1 (HKR.out.2 h0)
          go_wp2_with fail
          go_meet
          exact ⟨by rw [HE.out], rfl⟩
      case rest =>
        obtain ⟨rfl, hwx⟩ := hcut
        have hwx := hwx.symm
        subst hwx
        clear b1 b2 HKR
        have gxx : (xx : Int) < (nn : Int) := by omega
        go_upto_region 8 with fail
        clear s0 s1 s2 s3
        obtain ⟨b, hb⟩ : ∃ b, W2.heap.size = b := ⟨_, rfl⟩
        have HTP := hide1 (tp_start (x0 := .slice al nl cl) (x1 := .slice an nn cn) (x2 := .int .i64 st) (x3 := .slice ap np cp) (pk := .slice a2 n2 c2) hb)
        obtain ⟨W3, hW3⟩ : ∃ W3, W2.alloc (.cells #[.slice al nl cl, .slice an nn cn, .int .i64 st, .slice ap np cp, .slice a2 n2 c2, .int .i64 0, .slice none 0 0, .int .i64 0] 42) = W3 := ⟨_, rfl⟩
        rw [hW3] at HTP ⊢
        rw [hb]
        clear hW3
        have HMK := hide1 (mak_all W2 b (.slice an nn cn) (.int .i64 st) al ap a2 nl cl np cp n2 c2 ps tw hb hn64 h512 HPS.out HTW.out (HP.out.keep HKw2.out) (HTI.out.keep HKw2.out) HCI.out.2.2 401)
        have HSX : Hid (SymIn ps (3, (xx : Int))) := hide1 (by
          obtain ⟨p, hp, he⟩ := HCI.out.2.1 xx hxx
          exact .inr (.inr ⟨rfl, by show (0 : Int) ≤ (xx : Int); omega, p, hp, he⟩))
        clear hb
        go_wp2_with fail
        refine (HMK.out (3, (xx : Int)) 0 0 [] (.slice none 0 0) _ (by omega) (by omega) HSX.out HTP.out).mono ?_
        rintro e w6 ⟨r6, a6, o6, s6, v6, rfl, hT6, _, hs6, hr6, _, _⟩
        have HK6 := hide1 (gtrans HKw2.out hT6.2.2.2.1)
        have HK26 := hide1 hT6.2.2.2.1
        cases r6 with
        | false =>
          clear hT6 hr6
          go_wp2_with (go_at_call 10; refine (head_is7 _ (HT.out.keep HK6.out)).mono ?_; rintro e w9 ⟨rfl, hk9⟩; have HK9 := hide1 hk9; clear hk9)
          go_ret
          exact ⟨rfl, gtrans HK6.out HK9.out⟩
        | true =>
          obtain ⟨h400, c6, hc6, hsr⟩ := hr6 rfl
          have HSE : Hid (Sen nl ps (xx, o6)) := hide1 (by
            rw [List.nil_append] at hc6
            rw [hc6]
            rcases hsr with ⟨_, h⟩ | ⟨h, _⟩
            · exact h
            · exact absurd rfl h)
          obtain ⟨⟨oa, oc, ho⟩, hB6, hO6, _, _, hol⟩ := hT6
          have HLO : Hid (o6.length ≤ 4096) := hide1 (by omega)
          have HOR := hide1 (hO6.read (by omega))
          obtain ⟨n6, hn6⟩ : ∃ n6, o6.length = n6 := ⟨_, rfl⟩
          rw [hn6] at ho hol
          subst ho
          have HN6 := hide1 hn6
          have gn6 : (n6 : Int) ≤ 401 := by omega
          obtain ⟨c0, c1, c2', c3, c4, c5, c6', c7⟩ := hB6.cells
          have HNR := hide1 (name_r (nl := nl) hn128 (nullOk_keep O12.out HK26.out) (firstOk_keep O22.out HK26.out) (yldO_keep O42.out HK26.out) O5.out hxx)
          have HTD6 := hide1 (TdBox.keep HTD.out HK26.out)
          clear hr6 hc6 hsr hB6 hO6 hn6
          obtain ⟨⟨e1, k1, hsen⟩, ⟨fa, fn, fc, fl1, k2, hfn, hfr, hfs⟩, hyl⟩ := HNR.out
          rw [HFL.out] at hyl
          obtain ⟨t0, t1, t2, t3, t4⟩ := (TdBox.cells HTD6.out).1
          have HFN := hide1 hfn
          have HFR := hide1 hfr
          have HFS := hide1 hfs
          have HSN := hide1 hsen
          have HYL := hide1 hyl
          clear hfn hfr hfs hsen hyl HNR
          go_upto_region 11 with fail
          go_cut [84] from 57 to 83 (fun c wx => c = .bool false ∧ ∃ mq, wx = w6.drewN mq)
          case first =>
            have hor : o6 = [] ∨ ∃ t r, o6 = t :: r := by cases o6 with
              | nil => exact .inl rfl
              | cons t r => exact .inr ⟨t, r, rfl⟩
            rcases hor with h6 | ⟨t, r, h6⟩
            · have e : n6 = 0 := by rw [← HN6.out, h6]; rfl
              have e2 : e1 = true := HSN.out (h6 ▸ HSE.out)
              subst e e2
              clear h6
              go_quiet (fail)
              go_wp2_with fail
              go_meet
              exact ⟨rfl, _, rfl⟩
            · have hn0 : 0 < n6 := by rw [← HN6.out, h6]; simp
              have hb0 : ((n6 : Int) == 0) = false := by simp; omega
              have hb1 : (0 : Int) < (n6 : Int) := by omega
              have HMM : Hid (t ∈ fl1) := hide1 (HFS.out t r (h6 ▸ HSE.out))
              have hc1 : (n6 : Int) ≤ (oc : Int) := by
                obtain ⟨_, _, q1, hc1, _⟩ := SliceOf.len HOR.out
                simp only [Value.slice.injEq] at q1
                have h1 := q1.2.2
                have h2 := HN6.out
                omega
              obtain ⟨gb, go7, ea, kk⟩ := HOR.out.at_ (i := 0) (x := t) (by rw [h6]; rfl)
              subst ea
              rw [Nat.add_zero] at kk
              clear h6
              go_quiet ((go_at_call 13; exact Calls.quiet_of_same (lHas_yes fa fn fc fl1 t _ HFN.out (HFR.out.keep (drewN_kept _ _)) HMM.out)))
              go_wp2_with fail
              go_meet
              exact ⟨rfl, _, rfl⟩
          case rest =>
            obtain ⟨rfl, mq, hwx⟩ := hcut
            have HKq : Hid (Kept w6 wc) := hide1 (by rw [hwx]; exact drewN_kept _ _)
            clear hwx c0 c1 c2' c3 c4 c5 c6' c7 k1 k2 t0 t1 t2 t3 t4
            obtain ⟨t0, t1, t2, t3, t4⟩ := (TdBox.cells (TdBox.keep HTD6.out HKq.out)).1
            cases fl with
            | true =>
              go_wp2_with fail
              go_ret
              exact ⟨rfl, gtrans HK6.out HKq.out⟩
            | false =>
              obtain ⟨yb, yo, ya, yn, yc, yl, ea, hxm, k4, hyn, hyr, hys⟩ := HYL.out rfl
              have HLS : Hid (shorter o6 yl = false) := hide1 (hys o6 HSE.out HLO.out)
              subst ea
              have k5 := grown_cell HKq.out k4
              have gxm : (xx : Int) < (m : Int) := by omega
              have HYN := hide1 hyn
              have HYR := hide1 (hyr.keep HKq.out)
              clear k4 hyn hyr hys
              go_wp2_with (go_at_call 14; refine (gLess_is oa ya n6 oc yn yc o6 yl _ HN6.out HYN.out (HOR.out.keep HKq.out) HYR.out).mono ?_; rintro e w9 ⟨rfl, hk9⟩; rw [HLS.out]; have HK9 := hide1 hk9; clear hk9)
              go_ret
              exact ⟨rfl, gtrans HK6.out (gtrans HKq.out HK9.out)⟩

end Ex
end Go.Proofs.YtjomglclefbffaaDoor
