import Derived.Test.YtjomglclefbffaaDoorMSpNo
import Derived.Test.YtjomglclefbffaaDoorMSpLe
namespace Go.Proofs.YtjomglclefbffaaDoor
open Go.RowKit
attribute [local go_sem] Oper.semAt_some
namespace Ex

theorem flatM_at : ∀ {l : List (Nat × Nat)} {i : Nat} {m : Nat × Nat}, l[i]? = some m → (flatM l)[i * 2]? = some (.int .i64 (m.1 : Int)) ∧ (flatM l)[i * 2 + 1]? = some (.int .i64 (m.2 : Int))
  | [], i, m, h => by simp at h
  | x :: l, 0, m, h => by
    have h : x = m := by simpa using h
    subst h
    exact ⟨rfl, rfl⟩
  | x :: l, i + 1, m, h => by
    have ih := flatM_at (l := l) (i := i) (m := m) (by simpa using h)
    have e : flatM (x :: l) = [.int .i64 (x.1 : Int), .int .i64 (x.2 : Int)] ++ flatM l := rfl
    rw [e]
    refine ⟨?_, ?_⟩
    · rw [List.getElem?_append_right (by simp; omega), ← ih.1]
      congr 1
      simp
      omega
    · rw [List.getElem?_append_right (by simp; omega), ← ih.2]
      congr 1
      simp
      omega
theorem MdO.at_ {w : World} {base : Nat} {v : Value} {l : List (Nat × Nat)} (h : MdO w base v l) {i : Nat} {m : Nat × Nat} (hm : l[i]? = some m) : ∃ g c, v = .slice (some ⟨g, 0, none⟩) l.length c ∧ l.length ≤ c ∧ w.cell? ⟨g, i * 2, none⟩ = some (.int .i64 (m.1 : Int)) ∧ w.cell? ⟨g, i * 2 + 1, none⟩ = some (.int .i64 (m.2 : Int)) := by
  have h2 : w.ownsRow base 52 2 v l.length (flatM l) := h
  have hi : i < l.length := (List.getElem?_eq_some_iff.1 hm).1
  obtain ⟨f0, f1⟩ := flatM_at hm
  rcases h2.2 with ⟨rfl, h0⟩ | ⟨g, cap, cur, rfl, _, hg, hc, _, hs, ht⟩
  · omega
  · refine ⟨g, cap, rfl, hc, ?_, ?_⟩
    · rw [← ht, List.getElem?_take] at f0
      split at f0
      · simp only [World.cell?, hg]
        simpa using f0
      · cases f0
    · rw [← ht, List.getElem?_take] at f1
      split at f1
      · simp only [World.cell?, hg]
        simpa using f1
      · cases f1
theorem nts_start {W2 : World} {x0 x1 x2 x3 pk : Value} {b : Nat} (ps : List ProdM) (hb : W2.heap.size = b) : NtS W2 b x0 x1 x2 x3 pk ps (b + 1) 0 [] 0 (.slice none 0 0) [] (.slice none 0 0) ((W2.alloc (.cells #[x0, x1, x2, x3, pk, .int .i64 0, .slice none 0 0, .int .i64 0] 42)).alloc (.cells #[.slice none 0 0] 48)) := by
  have e : (W2.alloc (.cells #[x0, x1, x2, x3, pk, .int .i64 0, .slice none 0 0, .int .i64 0] 42)).heap.size = b + 1 := by simp [hb]
  refine ⟨(tp_start hb).keep ((Kept.refl _).alloc _ _), ⟨none, 0, rfl⟩, ?_, MdO.nil _ _, by omega, (fun h => by cases h), (fun d h => by cases h), Nat.le_refl _, (fun m h => by cases h)⟩
  have h := OneB.new (W2.alloc (.cells #[x0, x1, x2, x3, pk, .int .i64 0, .slice none 0 0, .int .i64 0] 42)) (.slice none 0 0) 48
  rw [e] at h
  exact h
/-- What Follow tells of a name, read off. -/
def FollR (nl s0 : Nat) (ps : List ProdM) (g3 x : Nat) (w : World) : Prop := ∃ (a : Option Addr) (n c : Nat) (l : List Int), w.cell? ⟨g3, x, none⟩ = some (.slice a n c) ∧ l.length = n ∧ IntsR w (.slice a n c) l ∧ ∀ v : Nat, FoP nl s0 ps (x, v) → (v : Int) ∈ l
theorem follow_r {nl s0 nn base : Nat} {ps : List ProdM} {g3 : Nat} {w : World} (hn : nn ≤ 128) (o3 : FollowOk nl s0 ps nn base (.slice (some ⟨g3, 0, none⟩) nn nn) w) {x : Nat} (hx : x < nn) : FollR nl s0 ps g3 x w := by
  have ln : ∀ {α : Type} (f : Nat → α), ((List.range nn).map f).length = nn := fun f => by simp
  have at_ : ∀ {α : Type} (f : Nat → α), ((List.range nn).map f)[x]? = some (f x) := fun f => by simp [hx]
  obtain ⟨F, G, hG1, hF, hG, b2⟩ := o3
  have eF : famS F = Fi nl (Mk false ps) ps := funext fun x => propext (hF x)
  rw [eF] at hG
  have r2 := b2.read (by rw [ln]; omega) (fun l hl => by
    obtain ⟨i, _, rfl⟩ := List.mem_map.1 hl
    exact Nat.le_trans (bits_len _) (by decide))
  obtain ⟨g, o, u, e1, e2, e4⟩ := r2.at_ (at_ _)
  injection e1 with e1
  injection e1 with e1 e3 _
  subst e1 e3
  rw [Nat.zero_add] at e2
  obtain ⟨a, c, rfl, _⟩ := SliceOf.len e4
  refine ⟨a, _, c, _, e2, rfl, e4, fun v hv => ?_⟩
  have hb : famS G (x, v) := (hG _).2 hv
  exact bits_mem hb (bit_lt hb (hG1 x))
theorem fol_lt {k : Nat} {lex : List (LexM k)} {ps : List ProdM} {nn nl : Nat} {st : Int} (hlex : lex.length = nl) (hq : CheckQ lex ps nn nl st (0, 0)) : ∀ p ∈ ps, p.1 < (nn : Int) := by
  obtain ⟨_, hpa, _⟩ := checkQ_ok hq rfl
  obtain ⟨h1, _⟩ := hpa.facts hlex (Nat.le_refl 2)
  have hp := hpa.places (by omega)
  unfold placesP at hp
  rw [if_pos h1.2.2] at hp
  exact fun p hm => (places_good hp p hm).1.2
def BhI (km : Nat) (W : World) (v : Value) (wr : World) : Prop := ∃ i : Nat, v = .int .i64 (i : Int) ∧ i ≤ km ∧ Hid (Kept W wr)
set_option linter.unusedSimpArgs false in
set_option maxRecDepth 100000 in
set_option maxHeartbeats 16000000 in
/-- SetsBehind. -/
theorem behind_is (k : Nat) (lex : List (LexM k)) (ps : List ProdM) (al an ap : Option Addr) (nl cl nn cn np cp : Nat) (st : Int) (a2 : Option Addr) (n2 c2 : Nat) (tw : List Int) (w : World) (hnn : nn ≤ 17592186044416) (hlex : lex.length = nl) (hps : ps.length = np) (htw : tw.length = n2) (hl : LexAt w k (.slice al nl cl) lex) (hp : ProdsAt w (.slice ap np cp) ps) (ht : IntsR w (.slice a2 n2 c2) tw) (hT : TabAt w) :
    Calls Tryd.prog 5 #[.agg #[.slice al nl cl, .slice an nn cn, .int .i64 st, .slice ap np cp], .slice a2 n2 c2] w fun e w' => e = .returned (.bool true) ∧ Kept w w' := by
  obtain ⟨_, _, e1, hc, hn⟩ := hp.len
  simp only [Value.slice.injEq] at e1
  obtain ⟨rfl, en, rfl⟩ := e1
  clear en
  rw [hps] at hc hn
  have gn : (np : Int) ≤ 17592186044416 := by omega
  obtain ⟨_, _, e1, hc2, hn2⟩ := SliceOf.len ht
  simp only [Value.slice.injEq] at e1
  obtain ⟨rfl, en, rfl⟩ := e1
  clear en
  rw [htw] at hc2 hn2
  have gn2 : (n2 : Int) ≤ 17592186044416 := by omega
  have HB := hide1 (SBox.new w (.slice al nl cl) (.slice an nn cn) (.int .i64 st) (.slice ap np cp))
  have HK : Hid (Kept w (w.alloc (.cells #[.slice al nl cl, .slice an nn cn, .int .i64 st, .slice ap np cp] 26))) := (Kept.refl w).alloc _ _
  have HP := hide1 hp
  have HL := hide1 hl
  have HPS := hide1 hps
  have HLEN := hide1 hlex
  have HTW := hide1 htw
  have HTI := hide1 ht
  have HT := hide1 hT
  have HNN := hide1 hnn
  clear hp hps hl hlex hnn hT ht htw
  go_enter Tryd.func5, Tryd.ntmps5
  go_upto_region 1 with fail
  obtain ⟨W, hW⟩ : ∃ W, w.alloc (.cells #[.slice al nl cl, .slice an nn cn, .int .i64 st, .slice ap np cp] 26) = W := ⟨_, rfl⟩
  rw [hW] at HB HK ⊢
  clear hW
  obtain ⟨sb, hsb⟩ : ∃ sb, w.heap.size = sb := ⟨_, rfl⟩
  rw [hsb] at HB ⊢
  clear hsb
  obtain ⟨s0, s1, s2, s3⟩ := HB.out.facts
  go_wp2_with fail
  refine (told_is k lex ps al an ap nl cl nn cn np cp st _ HNN.out HLEN.out HPS.out (HL.out.keep HK.out) (HP.out.keep HK.out) (HT.out.keep HK.out)).mono ?_
  rintro e w1 ⟨x, hq, hk1, hor⟩
  have HQ := hide1 hq
  have HK1 := hide1 hk1
  have HB1 := hide1 (HB.out.keep hk1)
  have HKw1 := hide1 (gtrans HK.out hk1)
  clear s0 s1 s2 s3 hq hk1
  obtain ⟨s0, s1, s2, s3⟩ := HB1.out.facts
  rcases hor with ⟨hx0, rfl⟩ | ⟨hx0, g1, g2, g3, ay, m, y, rfl, o1, o2, o3, o4, o5⟩
  · go_upto_region 2 with fail
    clear s0 s1 s2 s3
    have HA1 : Hid (Kept w1 (w1.alloc (.cells #[.slice none 0 0, .slice none 0 0, .slice none 0 0, .slice none 0 0, .bool false] 31))) := (Kept.refl w1).alloc _ _
    obtain ⟨W2, hW2⟩ : ∃ W2, w1.alloc (.cells #[.slice none 0 0, .slice none 0 0, .slice none 0 0, .slice none 0 0, .bool false] 31) = W2 := ⟨_, rfl⟩
    rw [hW2] at HA1 ⊢
    clear hW2
    have HKw2 := hide1 (gtrans HKw1.out HA1.out)
    obtain ⟨s0, s1, s2, s3⟩ := (HB1.out.keep HA1.out).facts
    go_wp2_with (go_at_call 10; refine (head_is7 _ (HT.out.keep HKw2.out)).mono ?_; rintro e w9 ⟨rfl, hk9⟩; have HK9 := hide1 hk9; clear hk9)
    go_ret
    exact ⟨rfl, gtrans HKw2.out HK9.out⟩
  · have HQ0 : Hid (CheckQ lex ps nn nl st (0, 0)) := by
      have h := HQ.out
      rw [(checkQ_ok h hx0).1] at h
      exact h
    obtain ⟨fl, hfl⟩ : ∃ fl, (y.1 == 6) = fl := ⟨_, rfl⟩
    rw [hfl]
    have HCI := hide1 (check_in HLEN.out HQ0.out)
    have HPL := hide1 (fol_lt HLEN.out HQ0.out)
    obtain ⟨sn, hsn⟩ : ∃ sn : Nat, (sn : Int) = st := ⟨st.toNat, Int.toNat_of_nonneg HCI.out.1.2.2.1⟩
    have O3 : Hid (FollowOk nl sn ps nn W.heap.size (.slice (some ⟨g3, 0, none⟩) nn nn) w1) := hide1 (by
      have h := o3
      rw [← hsn] at h
      exact h)
    have hsl : sn < nn := by have := HCI.out.1.2.2.2; omega
    clear hfl o1 o2 o3 o4 o5 hx0
    go_upto_region 2 with fail
    clear s0 s1 s2 s3
    have HA1 : Hid (Kept w1 (w1.alloc (.cells #[.slice (some ⟨g1, 0, none⟩) nn nn, .slice (some ⟨g2, 0, none⟩) nn nn, .slice (some ⟨g3, 0, none⟩) nn nn, .slice ay m m, .bool fl] 31))) := (Kept.refl w1).alloc _ _
    have HTD : Hid (TdBox (w1.alloc (.cells #[.slice (some ⟨g1, 0, none⟩) nn nn, .slice (some ⟨g2, 0, none⟩) nn nn, .slice (some ⟨g3, 0, none⟩) nn nn, .slice ay m m, .bool fl] 31)) w1.heap.size (.slice (some ⟨g1, 0, none⟩) nn nn) (.slice (some ⟨g2, 0, none⟩) nn nn) (.slice (some ⟨g3, 0, none⟩) nn nn) (.slice ay m m) fl) := heap_alloc_new w1 _
    obtain ⟨W2, hW2⟩ : ∃ W2, w1.alloc (.cells #[.slice (some ⟨g1, 0, none⟩) nn nn, .slice (some ⟨g2, 0, none⟩) nn nn, .slice (some ⟨g3, 0, none⟩) nn nn, .slice ay m m, .bool fl] 31) = W2 := ⟨_, rfl⟩
    rw [hW2] at HA1 HTD ⊢
    clear hW2
    obtain ⟨tb, htb⟩ : ∃ tb, w1.heap.size = tb := ⟨_, rfl⟩
    rw [htb] at HTD ⊢
    clear htb
    have HKw2 := hide1 (gtrans HKw1.out HA1.out)
    have HB2 := hide1 (HB1.out.keep HA1.out)
    have O32 := hide1 (followOk_keep O3.out HA1.out)
    obtain ⟨s0, s1, s2, s3⟩ := HB2.out.facts
    have h512 : np ≤ 512 := by have := check_512 HQ0.out; have := HPS.out; omega
    have hn64 : nl ≤ 64 := HCI.out.1.1
    have hn128 : nn ≤ 128 := HCI.out.1.2.1
    have gnn : (nn : Int) ≤ 128 := by omega
    have gnl : (nl : Int) ≤ 64 := by omega
    clear O3
    go_upto_region 6 with fail
    clear s0 s1 s2 s3
    obtain ⟨b, hb⟩ : ∃ b, W2.heap.size = b := ⟨_, rfl⟩
    have HTP := hide1 (nts_start (x0 := .slice al nl cl) (x1 := .slice an nn cn) (x2 := .int .i64 st) (x3 := .slice ap np cp) (pk := .slice a2 n2 c2) ps hb)
    have HB3 := hide1 (HB2.out.keep (((Kept.refl W2).alloc #[.slice al nl cl, .slice an nn cn, .int .i64 st, .slice ap np cp, .slice a2 n2 c2, .int .i64 0, .slice none 0 0, .int .i64 0] 42).alloc #[.slice none 0 0] 48))
    obtain ⟨W3, hW3⟩ : ∃ W3, (W2.alloc (.cells #[.slice al nl cl, .slice an nn cn, .int .i64 st, .slice ap np cp, .slice a2 n2 c2, .int .i64 0, .slice none 0 0, .int .i64 0] 42)).alloc (.cells #[.slice none 0 0] 48) = W3 := ⟨_, rfl⟩
    rw [hW3] at HTP HB3 ⊢
    rw [hb]
    clear hW3
    have HMK := hide1 (not_all W2 b (.slice an nn cn) (.int .i64 st) al ap a2 nl cl np cp n2 c2 sn (b + 1) ps tw hb hn64 h512 HPS.out HTW.out (HP.out.keep HKw2.out) (HTI.out.keep HKw2.out) HCI.out.2.2 401)
    have HSX : Hid (SymIn ps (3, st)) := hide1 (by
      obtain ⟨p, hp, he⟩ := HCI.out.2.1 sn hsl
      exact .inr (.inr ⟨rfl, by show (0 : Int) ≤ st; omega, p, hp, by rw [he]; exact hsn⟩))
    have HBB := hide1 hb
    have HSN := hide1 hsn
    clear hb hsn
    obtain ⟨s0, s1, s2, s3⟩ := HB3.out.facts
    go_wp2_with fail
    refine (HMK.out (3, st) 0 0 [] (.slice none 0 0) [] (.slice none 0 0) _ (by omega) (by omega) HSX.out HTP.out).mono ?_
    rintro e w6 ⟨r6, a6, o6, s6, v6, m6, u6, rfl, hN6, _, hs6, _, hr6, _, _, _⟩
    have HK6 := hide1 (gtrans HKw2.out hN6.1.2.2.2.1)
    have HK26 := hide1 hN6.1.2.2.2.1
    clear s0 s1 s2 s3
    cases r6 with
    | false =>
      clear hN6 hr6
      go_wp2_with (go_at_call 10; refine (head_is7 _ (HT.out.keep HK6.out)).mono ?_; rintro e w9 ⟨rfl, hk9⟩; have HK9 := hide1 hk9; clear hk9)
      go_ret
      exact ⟨rfl, gtrans HK6.out HK9.out⟩
    | true =>
      obtain ⟨h400, c6, mc6, hc6, hm6, hsr, hno⟩ := hr6 rfl
      rw [List.nil_append] at hc6 hm6
      subst hc6 hm6
      have HNO : Hid (∀ m ∈ m6, ∃ v : Nat, (o6 ++ [((nl + 1 : Nat) : Int)])[m.2]? = some (v : Int) ∧ FoP nl sn ps (m.1, v)) := hide1 (NoteR.whole (by
        have h := hno
        rw [← HSN.out] at h
        exact h))
      obtain ⟨⟨⟨oa, oc, ho⟩, hB6, hO6, _, _, hol⟩, ⟨ma, mc, hu⟩, hL6, hM6, _, hd1, hd2, hml, hmn⟩ := hN6
      obtain ⟨n6, hn6⟩ : ∃ n6, o6.length = n6 := ⟨_, rfl⟩
      rw [hn6] at ho hol
      subst ho
      obtain ⟨km, hkm⟩ : ∃ km, m6.length = km := ⟨_, rfl⟩
      rw [hkm] at hu hml
      subst hu
      have HN6 := hide1 hn6
      have HKM := hide1 hkm
      have HB6 := hide1 hB6
      have HO6 := hide1 hO6
      have HL6 := hide1 hL6
      have HM6 := hide1 hM6
      have HD1 := hide1 hd1
      have HD2 := hide1 hd2
      have HMN := hide1 hmn
      have HS6 := hide1 (HB2.out.keep HK26.out)
      clear hr6 hsr hno hn6 hkm hB6 hO6 hL6 hM6 hd1 hd2 hmn
      go_upto_region 8 with fail
      refine wp_region_held_drew (S := fun X => X.cell? ⟨b, 6, none⟩ = some (.slice oa n6 oc) ∧ X.cell? ⟨sb, 0, none⟩ = some (.slice al nl cl)) (by kernel_rfl) ⟨HB6.out.cells.2.2.2.2.2.2.1, HS6.out.facts.1⟩ (fun hHeld => ?_)
      refine wpAnyH_take (i := 0) (v := .pointer (some ⟨b, 0, none⟩)) rfl (by kernel_rfl) (by kernel_rfl) (by kernel_rfl) (fun _ _ _ h => h) (Or.inl ⟨by rfl, fun w' hSw => ?_⟩) (by with_reducible assumption) ?_
      · clear hSw
        go_simp
      try simp only [Act.put, List.setIfInBounds_toArray, List.set_cons_zero, List.set_cons_succ]
      refine wpAnyH_take (i := 1) (v := .pointer (some ⟨b, 0, none⟩)) rfl (by kernel_rfl) (by kernel_rfl) (by kernel_rfl) (fun _ _ _ h => h) (Or.inl ⟨by rfl, fun w' hSw => ?_⟩) (by with_reducible assumption) ?_
      · clear hSw
        go_simp
      try simp only [Act.put, List.setIfInBounds_toArray, List.set_cons_zero, List.set_cons_succ]
      refine wpAnyH_take (i := 2) (v := .pointer (some ⟨b, 6, none⟩)) rfl (by kernel_rfl) (by kernel_rfl) (by kernel_rfl) (fun _ _ _ h => h) (Or.inl ⟨by rfl, fun w' hSw => ?_⟩) (by with_reducible assumption) ?_
      · clear hSw
        go_simp
      try simp only [Act.put, List.setIfInBounds_toArray, List.set_cons_zero, List.set_cons_succ]
      refine wpAnyH_take (i := 3) (v := .slice oa n6 oc) rfl (by kernel_rfl) (by kernel_rfl) (by kernel_rfl) (fun _ _ _ h => h) (Or.inl ⟨by rfl, fun w' hSw => ?_⟩) (by with_reducible assumption) ?_
      · have s0 := hSw.1
        clear hSw
        go_simp
      try simp only [Act.put, List.setIfInBounds_toArray, List.set_cons_zero, List.set_cons_succ]
      refine wpAnyH_take (i := 4) (v := .pointer (some ⟨sb, 0, none⟩)) rfl (by kernel_rfl) (by kernel_rfl) (by kernel_rfl) (fun _ _ _ h => h) (Or.inl ⟨by rfl, fun w' hSw => ?_⟩) (by with_reducible assumption) ?_
      · clear hSw
        go_simp
      try simp only [Act.put, List.setIfInBounds_toArray, List.set_cons_zero, List.set_cons_succ]
      refine wpAnyH_take (i := 5) (v := .slice al nl cl) rfl (by kernel_rfl) (by kernel_rfl) (by kernel_rfl) (fun _ _ _ h => h) (Or.inl ⟨by rfl, fun w' hSw => ?_⟩) (by with_reducible assumption) ?_
      · have s0 := hSw.2
        clear hSw
        go_simp
      try simp only [Act.put, List.setIfInBounds_toArray, List.set_cons_zero, List.set_cons_succ]
      refine wpAnyH_take (i := 6) (v := .int .i64 (nl : Int)) rfl (by kernel_rfl) (by kernel_rfl) (by kernel_rfl) (fun _ _ _ h => h) (Or.inl ⟨by rfl, fun w' hSw => ?_⟩) (by with_reducible assumption) ?_
      · clear hSw
        go_simp
      try simp only [Act.put, List.setIfInBounds_toArray, List.set_cons_zero, List.set_cons_succ]
      refine wpAnyH_take (i := 7) (v := .int .i64 ((nl : Int) + 1)) rfl (by kernel_rfl) (by kernel_rfl) (by kernel_rfl) (fun _ _ _ h => h) (Or.inl ⟨by rfl, fun w' hSw => ?_⟩) (by with_reducible assumption) ?_
      · clear hSw
        go_simp
        rw [IntKind.wrap_i64]
        omega
      try simp only [Act.put, List.setIfInBounds_toArray, List.set_cons_zero, List.set_cons_succ]
      have HKX : Hid (Kept w6 (w6.alloc (.cells #[.int .i64 ((nl : Int) + 1)] 3)).drew) := hide1 (gtrans ((Kept.refl w6).alloc _ _) (drew_kept _))
      refine wpAnyH_ready (rs := [8]) (by kernel_rfl) (by simp) ?_
      refine AllReadyH.cons (i := 8) rfl (fun K hK => ?_) AllReadyH.nil
      go_simp
      refine hK.out _ _ ⟨(HB6.out.keep HKX.out).cells.2.2.2.2.2.2.1, (HS6.out.keep HKX.out).facts.1⟩ (fun hHeld2 => ?_)
      clear hK K hHeld
      have hHeld := hHeld2
      clear hHeld2
      try simp only [Act.put, List.setIfInBounds_toArray, List.set_cons_zero, List.set_cons_succ]
      refine wpAnyH_ready (rs := [9]) (by kernel_rfl) (by simp) ?_
      refine AllReadyH.cons (i := 9) rfl (fun K hK => ?_) AllReadyH.nil
      refine step_intS rfl _ _ rfl (w6.alloc (.cells #[.int .i64 ((nl : Int) + 1)] 3)).drew (b + 1) (.slice oa n6 oc) o6 n6 HN6.out rfl (HO6.out.keep HKX.out) w6.heap.size ((nl : Int) + 1) rfl (heap_alloc_new w6 _) (by omega) (Nat.le_trans (TpB.lt HB6.out) HKX.out.size) ?_
      intro g9 c9 w9 ho9 hg9 hor9
      have HO9 := hide1 ho9
      have NE : ∀ d, d ≤ b → some d ≠ (Value.slice oa n6 oc).ownBlock := fun d hd e => by have := (HO6.out.lt d e.symm).1; omega
      have HK29 : Hid (Kept W2 w9) := hide1 ⟨hg9.os.trans (gtrans HK26.out HKX.out).1, hg9.tape.trans (gtrans HK26.out HKX.out).2.1, hg9.output.trans (gtrans HK26.out HKX.out).2.2.1, Nat.le_trans (gtrans HK26.out HKX.out).size hg9.size, fun d hd => (hg9.block d (Nat.lt_of_lt_of_le hd (gtrans HK26.out HKX.out).size) (NE d (by have := HBB.out; omega))).trans ((gtrans HK26.out HKX.out).2.2.2.2 d hd)⟩
      have HL9 : Hid (OneB w9 (b + 1) (.slice ma km mc) 48) := hide1 ((hg9.block (b + 1) (Nat.lt_of_lt_of_le HL6.out.lt HKX.out.size) HD1.out).trans (HL6.out.keep HKX.out))
      have HM9 : Hid (MdO w9 (b + 1 + 1) (.slice ma km mc) m6) := hide1 ((HM6.out.keep HKX.out).same (fun d hd => hg9.block d (Nat.lt_of_lt_of_le (HM6.out.lt d hd).2 HKX.out.size) (HD2.out d hd)))
      have HB9 : Hid (w9.cell? ⟨b, 6, none⟩ = some (.slice oa n6 oc)) := hide1 (TpB.cells ((hg9.block b (Nat.lt_of_lt_of_le HB6.out.lt HKX.out.size) (NE b (Nat.le_refl _))).trans (HB6.out.keep HKX.out))).2.2.2.2.2.2.1
      have HS9 := hide1 (HB2.out.keep HK29.out)
      have HTD9 := hide1 (TdBox.keep HTD.out HK29.out)
      have HC9 : Hid (n6 + 1 ≤ c9) := hide1 (by
        rcases ho9.2 with ⟨h, _⟩ | ⟨_, _, _, h, _, _, hc, _⟩
        · cases h
        · simp only [Value.slice.injEq] at h
          rw [List.length_append, HN6.out] at hc
          have := h.2.2
          simp at hc
          omega)
      clear ho9 hg9 hor9 NE
      refine hK.out _ _ ⟨HB9.out, HS9.out.facts.1⟩ (fun hHeld2 => ?_)
      clear hK K hHeld
      have hHeld := hHeld2
      clear hHeld2
      try simp only [Act.put, List.setIfInBounds_toArray, List.set_cons_zero, List.set_cons_succ]
      refine wpAnyH_take (i := 10) (v := .slice (some ⟨g9, 0, none⟩) (n6 + 1) c9) rfl (by kernel_rfl) (by kernel_rfl) (by kernel_rfl) (fun _ _ _ h => h) (Or.inl ⟨by rfl, fun w' hSw => ?_⟩) (by with_reducible assumption) ?_
      · clear hSw
        go_simp
      try simp only [Act.put, List.setIfInBounds_toArray, List.set_cons_zero, List.set_cons_succ]
      refine wpAnyH_done (by kernel_rfl) ?_ _
      clear hHeld HB9 HKX
      have HR9 := hide1 (HO9.out.read (by rw [List.length_append, HN6.out]; simp; omega))
      have gkm : (km : Int) ≤ 401 := by omega
      go_wp2_with fail
      go_loopw [11] (BhI km w9) (fun i _ => km - (intOf i).toNat)
      case atStart => exact ⟨0, rfl, Nat.zero_le _, Kept.refl _⟩
      case round =>
        obtain ⟨i, rfl, hi, HKr⟩ := hrel
        have t0 := (HL9.out.keep HKr.out).cell
        by_cases hlt : (i : Int) < (km : Int)
        · obtain ⟨q, hq⟩ : ∃ q, m6[i]? = some q := ⟨_, List.getElem?_eq_getElem (by have := HKM.out; omega)⟩
          obtain ⟨v, hv1, hv2⟩ := HNO.out q (List.mem_of_getElem? hq)
          obtain ⟨pp, hp1, hp2⟩ := HMN.out q (List.mem_of_getElem? hq)
          obtain ⟨mg, mcc, em, hmc, k0, k1⟩ := (HM9.out.keep HKr.out).at_ hq
          rw [HKM.out] at em hmc
          simp only [Value.slice.injEq] at em
          obtain ⟨em, -, em2⟩ := em
          subst em em2
          obtain ⟨qx, qt⟩ := q
          dsimp only at hv1 hv2 hp2 k0 k1
          have hqx : qx < nn := by have := HPL.out pp hp1; omega
          obtain ⟨fa, fn, fc, fl1, k2, hfn, hfr, hfs⟩ := follow_r hn128 (followOk_keep O32.out (gtrans HK29.out HKr.out)) hqx
          obtain ⟨rb, ro, er, k3⟩ := (HR9.out.keep HKr.out).at_ hv1
          injection er with er
          injection er with er1 er2 _
          subst er1 er2
          have hqt : qt < n6 + 1 := by
            have h := (List.getElem?_eq_some_iff.1 hv1).1
            rw [List.length_append, HN6.out] at h
            exact h
          have t2 := (TdBox.cells (HTD9.out.keep HKr.out)).1.2.2.1
          have HFN := hide1 hfn
          have HFR := hide1 hfr
          have HMM := hide1 (hfs v hv2)
          clear hv1 hv2 hp1 hp2 hfn hfr hfs hq
          rw [Nat.zero_add] at k3
          have gqx : (qx : Int) < (nn : Int) := by omega
          have gqt : (qt : Int) < (n6 : Int) + 1 := by omega
          have gqc : (qt : Int) < (c9 : Int) := by have := HC9.out; omega
          have gic : (i : Int) < (mc : Int) := by omega
          go_upto_region 12 with fail
          go_quiet ((go_at_call 13; exact Calls.quiet_of_same (lHas_yes fa fn fc fl1 (v : Int) _ HFN.out (HFR.out.keep (drewN_kept _ _)) HMM.out)))
          have HKq := hide1 (gtrans HKr.out (drewN_kept wr nq))
          clear t0 t2 k0 k1 k2 k3
          generalize wr.drewN nq = wq at HKq ⊢
          go_wp2_with fail
          go_roundw
          case rel => exact ⟨i + 1, by go_num, by omega, HKq⟩
          case measure => simp [intOf]; omega
        · have HKe := hide1 (gtrans HKw2.out (gtrans HK29.out HKr.out))
          go_wp2_with (go_at_call 10; refine (head_is7 _ (HT.out.keep HKe.out)).mono ?_; rintro e wz ⟨rfl, hk9⟩; have HKz := hide1 hk9; clear hk9)
          go_ret
          exact ⟨rfl, gtrans HKe.out HKz.out⟩

end Ex
end Go.Proofs.YtjomglclefbffaaDoor
