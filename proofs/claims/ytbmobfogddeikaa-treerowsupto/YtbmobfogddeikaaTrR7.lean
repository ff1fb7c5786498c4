import Derived.Test.YtbmobfogddeikaaTrR6
namespace Go.Proofs.Ytbmobfogddeikaa
open Go.RowKit
attribute [local go_sem] Oper.semAt_some
namespace Ex
namespace Tr

theorem wl_len_eq {R : Nat → Prop} {N : Nat → Nd} {B : Nat} {w : World} (hF : Forest R N B w) : ∀ (f : Nat) (ps : List Nat) (a : Nat), (∀ p ∈ ps, R p) → sizeS N ps = f → (wl N f ps a).length = f
  | 0, _, _, _, _ => rfl
  | f + 1, [], _, _, h => by simp [sizeS] at h
  | f + 1, b :: ps, a, hR, h => by
    have hb := hR b List.mem_cons_self
    have hsz := (hF b hb).2.2.2.2
    have h1 := wl_len_eq hF f ((N b).kids.map Prod.fst ++ ps) (a + lwid (N b)) (fun p hp => by
      rcases List.mem_append.1 hp with hp | hp
      · obtain ⟨q, hq, rfl⟩ := List.mem_map.1 hp
        exact (hF b hb).2.2.2.1 q hq
      · exact hR p (List.mem_cons_of_mem _ hp)) (by rw [sizeS_cons] at h; rw [sizeS_app]; omega)
    simp only [wl, List.length_cons, h1]
theorem pendI_size {R : Nat → Prop} {N : Nat → Nd} {B : Nat} {w : World} (hF : Forest R N B w) : ∀ (k : Nat) (ps : List Nat), (∀ p ∈ ps, R p) → k ≤ sizeS N ps → sizeS N (pendI N k ps) + k = sizeS N ps ∧ ∀ p ∈ pendI N k ps, R p
  | 0, ps, hR, _ => ⟨rfl, hR⟩
  | k + 1, [], _, h => by simp [sizeS] at h
  | k + 1, b :: ps, hR, h => by
    have hb := hR b List.mem_cons_self
    have hsz := (hF b hb).2.2.2.2
    obtain ⟨h1, h2⟩ := pendI_size hF k ((N b).kids.map Prod.fst ++ ps) (fun p hp => by
      rcases List.mem_append.1 hp with hp | hp
      · obtain ⟨q, hq, rfl⟩ := List.mem_map.1 hp
        exact (hF b hb).2.2.2.1 q hq
      · exact hR p (List.mem_cons_of_mem _ hp)) (by rw [sizeS_cons] at h; rw [sizeS_app]; omega)
    refine ⟨?_, h2⟩
    show sizeS N (pendI N k ((N b).kids.map Prod.fst ++ ps)) + (k + 1) = _
    rw [sizeS_app] at h1
    rw [sizeS_cons]
    omega
theorem POwn.ptrsN {w : World} {base : Nat} {v : Value} {l : List Nat} (h : POwn w base v l) (hl : l.length ≤ 4194304) : PtrsN w v l := by
  rcases h.2 with ⟨rfl, h0⟩ | ⟨g, cap, cur, rfl, hb, hg, hc, _, _, hx⟩
  · have : l = [] := List.length_eq_zero_iff.1 h0
    subst this
    exact ⟨none, 0, rfl, by simp, fun i b hb => by simp at hb⟩
  · exact ⟨_, cap, rfl, by omega, fun i b hib => ⟨g, 0, rfl, by rw [Nat.zero_add]; exact row_cells hg hx _ _ (flatPt_at hib)⟩⟩
theorem own_len (a : Option Addr) (n n' c : Nat) : (Value.slice a n c).ownBlock = (Value.slice a n' c).ownBlock := by cases a <;> rfl
theorem drop_rev {l : List Nat} {q b : Nat} (h : l[q]? = some b) : (l.drop q).reverse = (l.drop (q + 1)).reverse ++ [b] := by
  obtain ⟨hq, hb⟩ := List.getElem?_eq_some_iff.1 h
  rw [List.drop_eq_getElem_cons hq, List.reverse_cons, hb]
theorem made_leaf {N : Nat → Nd} {b : Nat} (h : MadeOk N b) (hk : (N b).kind = 1) : ∃ s m l3, N b = leafN s m (N b).n (N b).l1 (N b).l2 l3 := by
  rcases h with ⟨s, m, l0, l1, l2, l3, e⟩ | ⟨s, m, kd, n, ks, hm, e⟩
  · exact ⟨s, m, l3, by rw [e]; rfl⟩
  · have := may_cases hm
    rw [e] at hk
    have h2 : kd = 1 := hk
    omega
theorem made_make {N : Nat → Nd} {b : Nat} (h : MadeOk N b) (hk : (N b).kind ≠ 1) : ∃ s m ks, mayP (N b).kind (N b).n = true ∧ N b = makeN N s m (N b).kind (N b).n ks := by
  rcases h with ⟨s, m, l0, l1, l2, l3, e⟩ | ⟨s, m, kd, n, ks, hm, e⟩
  · exact absurd (by rw [e]; rfl) hk
  · exact ⟨s, m, ks, by rw [e]; exact hm, e.trans (by rw [e]; rfl)⟩

set_option linter.unusedSimpArgs false in
set_option maxRecDepth 100000 in
set_option maxHeartbeats 4000000 in
theorem tall_is (R : Nat → Prop) (N : Nat → Nd) (B x s : Nat) (v : Value) (w : World) (hF : Forest R N B w) (hx : R x) (hmk : ∀ b, R b → MadeOk N b) (hv : RowsRd w v ((wl N (N x).size [x] 0).map fun q => N q.2)) (hs : StoreAt w s 0) (hz : (N x).size ≤ 4000) :
    Calls Try.prog 8 #[.pointer (some ⟨s, 0, none⟩), v] w fun e w' => (∃ y, e = .returned (.tuple #[.pointer (some ⟨y, 0, none⟩), .bool true]) ∧ ∃ M R', Forest R' M w'.heap.size w' ∧ R' y ∧ Same N M x y) ∧ KeptBut s w w' := by
  obtain ⟨n, hn⟩ : ∃ n, (N x).size = n := ⟨_, rfl⟩
  have hsx : sizeS N [x] = n := by rw [← hn]; simp [sizeS]
  have hRx : ∀ p ∈ [x], R p := fun p hp => by rw [List.mem_singleton.1 hp]; exact hx
  have hlen : ((wl N (N x).size [x] 0).map fun q => N q.2).length = n := by rw [List.length_map, hn]; exact wl_len_eq hF n [x] 0 hRx hsx
  obtain ⟨va, vc, rfl, _, hrd⟩ := hv
  rw [hlen]
  have HRD : Hid (∀ (k : Nat), k < n → ∃ b t, pendI N k [x] = b :: t ∧ pendI N (k + 1) [x] = (N b).kids.map Prod.fst ++ t ∧ R b ∧ (∀ p ∈ t, R p) ∧ ((N b).kids.map Prod.fst ++ t).length ≤ n ∧ ∃ g, va = some ⟨g, 0, none⟩ ∧ g ≠ s ∧ ∀ (j : Nat) (u : Value), (rowL (N b))[j]? = some u → w.cell? ⟨g, k * 6 + j, none⟩ = some u) := fun k hk => by
    obtain ⟨b, t, h1, h2, h3, h4, h5⟩ := pendI_wl hF k [x] 0 hRx (by rw [hsx]; exact hk)
    rw [hsx, ← hn] at h5
    obtain ⟨g, h6, h7⟩ := hrd k (N b) h5
    obtain ⟨z1, z2⟩ := pendI_size hF (k + 1) [x] hRx (by omega)
    have z3 := (sums_le _ (fun p hp => (hF p (z2 p hp)).2.1)).1
    refine ⟨b, t, h1, h2, h3, h4, by rw [← h2]; omega, g, h6, ?_, h7⟩
    rintro rfl
    have h8 := h7 1 _ rfl
    rw [hs.one (by omega)] at h8
    cases h8
  have HPE := hide1 (pendI_end hF n [x] hRx hsx.symm)
  have HF := hide1 hF
  have HMK := hide1 hmk
  have HS := hide1 hs
  have hsl := hs.lt
  have hnI : (n : Int) ≤ 4000 := by omega
  have hn4 : n ≤ 4000 := by omega
  clear hrd hs hlen hsx hRx hF hmk hx hz hn
  go_enter Try.func8, Try.ntmps8
  go_wp2_with fail
  go_loopw [6, 7] (fun v6 v7 wr => ∃ k : Nat, k ≤ n ∧ v7 = .int .i64 ((k : Int) - 1) ∧ Hid (TallI N x n w.heap.size s w k v6 wr)) (fun _ v7 _ => (intOf v7 + 1).toNat)
  case atStart => exact ⟨n, Nat.le_refl _, by go_num, fun _ => False, fun _ => leafN 0 0 0 0 0 0, fun _ => False, 0, [], HS.out, by omega, ⟨rfl, Or.inl ⟨rfl, rfl⟩⟩, fun _ h => h.elim, Nat.le_refl _, fun _ h => h.elim, (fun p hp => by simp at hp), by rw [HPE.out]; trivial, (Kept.refl w).tbut s⟩
  case round =>
    obtain ⟨k, hk, rfl, HI⟩ := hrel
    rcases Nat.eq_zero_or_pos k with hz | hpos
    · subst hz
      rw [show (((0 : Nat) : Int) - 1) = -1 from rfl]
      obtain ⟨V, M, R', m, Sx, t1, t2, t3, t4, t5, t6, t7, t8, t9⟩ := HI.out
      obtain ⟨y, rfl, hsame⟩ : ∃ y, Sx = [y] ∧ Same N M x y := by
        have h8 : Sames N M [x] Sx.reverse := t8
        cases hr : Sx.reverse with
        | nil => rw [hr] at h8; exact h8.elim
        | cons y l =>
          rw [hr] at h8
          cases l with
          | nil => exact ⟨y, by have := congrArg List.reverse hr; simpa using this, h8.1⟩
          | cons z l => exact h8.2.elim
      obtain ⟨gs, cs, rfl, _, cY⟩ := t3.cell (i := 0) rfl
      have HFIN : Hid ((∃ M R', Forest R' M wr.heap.size wr ∧ R' y ∧ Same N M x y) ∧ KeptBut s w wr) := ⟨⟨M, R', fun b hb => ⟨(t6 b hb).1.at (fun q hq => (t4 q hq).2.1), (t6 b hb).2.1⟩, t7 y (by simp), hsame⟩, t9⟩
      clear t1 t2 t3 t4 t5 t6 t7 t8 t9 HI hsame
      go_wp2_with fail
      go_ret2
      exact ⟨⟨y, rfl, HFIN.out.1⟩, HFIN.out.2⟩
    · obtain ⟨i, rfl⟩ : ∃ i, k = i + 1 := ⟨k - 1, by omega⟩
      rw [show (((i + 1 : Nat) : Int) - 1) = (i : Int) by omega]
      obtain ⟨V, M, R', m, Sx, t1, t2, t3, t4, t5, t6, t7, t8, t9⟩ := HI.out
      obtain ⟨b, t, p1, p2, p3, p4, p5, g, rfl, hgs, hcl⟩ := HRD.out i (by omega)
      have a0 := t9.cell hgs (hcl 0 _ rfl)
      have a1 := t9.cell hgs (hcl 1 _ rfl)
      have a2 := t9.cell hgs (hcl 2 _ rfl)
      have a3 := t9.cell hgs (hcl 3 _ rfl)
      have a4 := t9.cell hgs (hcl 4 _ rfl)
      have a5 := t9.cell hgs (hcl 5 _ rfl)
      simp only [Nat.add_zero] at a0
      have hiI : (i : Int) < (n : Int) := by omega
      rw [p2] at t8
      obtain ⟨a6, c6, h6⟩ := t3.form
      subst h6
      obtain ⟨wB, hwB⟩ : ∃ wB, wr.alloc (.cells #[.int .i64 (N b).kind, .int .i64 (N b).n, .int .i64 (N b).l1, .int .i64 (N b).l2, .int .i64 ((N b).kids.length : Int), .int .i64 ((N b).num : Int)] 46) = wB := ⟨_, rfl⟩
      have hkB : Kept wr wB := by rw [← hwB]; exact (Kept.refl wr).alloc _ _
      have hbx : wB.heap[wr.heap.size]? = some (.cells #[.int .i64 (N b).kind, .int .i64 (N b).n, .int .i64 (N b).l1, .int .i64 (N b).l2, .int .i64 ((N b).kids.length : Int), .int .i64 ((N b).num : Int)] 46 (0, 0)) := by rw [← hwB]; exact World.alloc_heap_new wr _
      have hszB : wr.heap.size + 1 = wB.heap.size := by rw [← hwB]; simp
      obtain ⟨Sn, hSn⟩ : ∃ Sn, Sx.length = Sn := ⟨_, rfl⟩
      rw [hSn] at t3 t4 ⊢
      have hSnn : Sn ≤ n := by rw [← hSn, ← List.length_reverse, ← t8.len]; exact p5
      have HT3 := hide1 t3
      have HT4 := hide1 t4
      have HT6 := hide1 t6
      have HT7 := hide1 t7
      have HT8 := hide1 t8
      have HT9 := hide1 t9
      have HT1 := hide1 t1
      have HP1 := hide1 p1
      have HKB := hide1 hkB
      have HBX := hide1 hbx
      have HSN := hide1 hSn
      have HP3 := hide1 p3
      have HP4 := hide1 p4
      clear t1 t3 t4 t6 t7 t8 t9 p1 p2 p3 p4 hcl HI hkB hSn
      go_upto_region 6 with fail
      have q0 : wB.cell? ⟨wr.heap.size, 0, none⟩ = some (.int .i64 (N b).kind) := by simp [World.cell?, hbx]
      have q1 : wB.cell? ⟨wr.heap.size, 1, none⟩ = some (.int .i64 (N b).n) := by simp [World.cell?, hbx]
      have q2 : wB.cell? ⟨wr.heap.size, 2, none⟩ = some (.int .i64 (N b).l1) := by simp [World.cell?, hbx]
      have q3 : wB.cell? ⟨wr.heap.size, 3, none⟩ = some (.int .i64 (N b).l2) := by simp [World.cell?, hbx]
      have q4 : wB.cell? ⟨wr.heap.size, 4, none⟩ = some (.int .i64 ((N b).kids.length : Int)) := by simp [World.cell?, hbx]
      clear hwB hbx a0 a1 a2 a3 a4 a5
      by_cases hkd : (N b).kind = 1
      · rw [hkd] at q0
        obtain ⟨sl, ml, ll, hleaf⟩ := made_leaf (HMK.out b HP3.out) hkd
        have HLF := hide1 hleaf
        have hk0 : (N b).kids = [] := (HF.out b HP3.out).2.2.1 hkd
        have HT8' : Hid (Sames N M t Sx.reverse) := by have h := HT8.out; rw [hk0] at h; exact h
        have HPB : Hid (POwn wB w.heap.size (.slice a6 Sn c6) Sx) := owns_same HT3.out (fun q hq => HKB.out.2.2.2.2 q (ownsRow_lt HT3.out q hq).2)
        have HSB := hide1 (HT1.out.keep HKB.out)
        have hszw : w.heap.size ≤ wB.heap.size := by omega
        have hmn : m ≤ n := by omega
        clear hleaf hk0
        go_wp2_with (first
          | (go_at_call 23; refine (leaf_is (N b).n (N b).l1 (N b).l2 0 s m _ HSB.out (by omega)).mono ?_; rintro e w5 ⟨c5, rfl, hc5, hk5, hs5, hn5⟩; have HK5 := hide1 hk5; have HS5 := hide1 hs5; have HN5 := hide1 (nodeV_of (A := wB.heap.size) hn5 hc5 (Or.inr rfl)); have hs5B : wB.heap.size ≤ w5.heap.size := hk5.2.2.2.1; have HP5 := hide1 (show POwn w5 w.heap.size (.slice a6 Sn c6) Sx from owns_same HPB.out (fun q hq => hk5.2.2.2.2 q (ownsRow_lt HPB.out q hq).2 (by have := (ownsRow_lt HPB.out q hq).1; omega))); clear hk5 hs5 hn5)
          | (at_builtin; go_must (refine wpl_P rfl _ _ rfl _ w.heap.size _ Sx Sn HSN.out (by rfl) (owns_same (w' := w5.alloc (.cells #[.pointer (some ⟨c5, 0, none⟩)] 27)) HP5.out (fun q hq => heap_alloc_old w5 _ (ownsRow_lt HP5.out q hq).2)) w5.heap.size c5 (by rfl) (World.alloc_heap_new w5 _) (by rw [HSN.out]; omega) (by exact Nat.le_trans (Nat.le_trans hszw hs5B) (alloc_le w5 _)) ?_; intro g6 c6' w6 ho6 hg6 hor6 hl6; have HO6 := hide1 ho6; have HG6 := hide1 hg6; have HOR6 := hide1 hor6; clear ho6 hg6 hor6 hl6)))
        have hs56 : w5.heap.size + 1 ≤ w6.heap.size := by have := HG6.out.size; simp at this; omega
        have HC6 : Hid (∀ q, q < w5.heap.size → (Value.slice a6 Sn c6).ownBlock ≠ some q → w6.heap[q]? = w5.heap[q]?) := fun q h1 h2 => (HG6.out.block q (Nat.lt_of_lt_of_le h1 (alloc_le w5 _)) (fun e => h2 e.symm)).trans (heap_alloc_old w5 _ h1)
        have HFIN : Hid (TallI N x n w.heap.size s w i (.slice (some ⟨g6, 0, none⟩) (Sn + 1) c6') w6) := by
          have hP3 := ownsRow_lt HT3.out
          have hV4 := HT4.out
          have hgr := HG6.out
          refine TallI.put (V := V) (M := M) (R := R') (m := m) (a1 := wB.heap.size) (a2 := w5.heap.size) (b := b) (c := c5) (t := t) (S2 := Sx) (vS := .slice a6 Sn c6) (w := wr) (Y := leafN s m (N b).n (N b).l1 (N b).l2 0) ?_ (by omega) HT4.out (fun q hq => (hP3 q hq).2) ⟨by omega, fun q hq => ?_⟩ HT6.out (by omega) hs5B (by omega) t5 ?_ ?_ rfl HO6.out ?_ HT7.out ?_ HT8'.out HP1.out ?_
          · exact (HC6.out s HS5.out.lt (fun e => by have := (hP3 s e).1; omega)).trans HS5.out
          · obtain ⟨v1, v2, v3⟩ := hV4 q hq
            exact (HC6.out q (by omega) v3).trans ((HK5.out.2.2.2.2 q (by omega) (by omega)).trans (HKB.out.2.2.2.2 q v2))
          · exact HN5.out.kx ⟨by omega, fun q hq => HC6.out q hq.2 (fun e => by have := (hP3 q e).2; omega)⟩
          · exact ⟨leafN_ok _ _ _ _ _ _, fun _ => rfl, (fun q hq => by simp [leafN] at hq), rfl⟩
          · rcases HOR6.out with h | h
            · exact Or.inl (by rw [h]; rfl)
            · refine Or.inr ⟨g6, rfl, ?_⟩
              rw [h]
              exact alloc_le w5 _
          · intro M' _ hM'
            exact same_leaf HLF.out hM'
          · have h9 := HT9.out.trans ((HKB.out.tbut s).trans HK5.out)
            exact ⟨hgr.os.trans h9.1, hgr.tape.trans h9.2.1, hgr.output.trans h9.2.2.1, by have := h9.2.2.2.1; omega, fun q h1 h2 => (HC6.out q (Nat.lt_of_lt_of_le h1 h9.2.2.2.1) (fun e => by have := (hP3 q e).1; omega)).trans (h9.2.2.2.2 q h1 h2)⟩
        clear HC6 HG6 HO6 HOR6
        go_roundw
        case rel => exact ⟨i, by omega, by go_num, HFIN⟩
        case measure => simp [intOf]
      · obtain ⟨sb, mb, ks, hmay, hmade⟩ := made_make (HMK.out b HP3.out) hkd
        obtain ⟨kd, hkde⟩ : ∃ kd, (N b).kind = kd := ⟨_, rfl⟩
        obtain ⟨nn, hnne⟩ : ∃ nn, (N b).n = nn := ⟨_, rfl⟩
        have hks : (N b).kids.map Prod.fst = ks := by rw [hmade]; exact kidG_fst N ks 0
        rw [hkde] at hkd q0
        rw [hnne] at q1
        rw [hkde, hnne] at hmade hmay
        have h8 := HT8.out
        rw [hks] at h8
        obtain ⟨sA, sB, hrev, hSA, hSB⟩ := h8.split
        have hSx : Sx = sB.reverse ++ sA.reverse := by
          have := congrArg List.reverse hrev
          rw [List.reverse_reverse, List.reverse_append] at this
          exact this
        have hKl : (N b).kids.length = ks.length := by rw [← hks, List.length_map]
        obtain ⟨K, hK⟩ : ∃ K, ks.length = K := ⟨_, rfl⟩
        obtain ⟨L2, hL2⟩ : ∃ L2, sB.length = L2 := ⟨_, rfl⟩
        have hAK : sA.length = K := by rw [← hSA.len, hK]
        have hSnK : Sn = L2 + K := by rw [← HSN.out, hSx, List.length_append, List.length_reverse, List.length_reverse, hL2, hAK]
        rw [hKl, hK] at q4
        have hKI : (K : Int) ≤ (Sn : Int) := by omega
        have hKI2 : ¬ (Sn : Int) < (K : Int) := by omega
        have hKn : K ≤ n := by omega
        have hKnI : (K : Int) ≤ 4000 := by omega
        have HSx := hide1 hSx
        have HMD := hide1 hmade
        have HMY := hide1 hmay
        have HSA := hide1 hSA
        have HSB := hide1 hSB
        have HAK := hide1 hAK
        have HL2 := hide1 hL2
        have hnd := (HF.out b HP3.out).2.1.2.1
        have hsize : 1 + sizeS M sA ≤ 4194304 := by
          rw [← hSA.sums.1]
          rw [hmade] at hnd
          exact hnd
        have HSZ := hide1 hsize
        have hrA : ∀ p ∈ sA, R' p := fun p hp => HT7.out p (by rw [hSx]; exact List.mem_append.2 (Or.inr (List.mem_reverse.2 hp)))
        have hrB : ∀ p ∈ sB.reverse, R' p := fun p hp => HT7.out p (by rw [hSx]; exact List.mem_append.2 (Or.inl hp))
        have HRA := hide1 hrA
        have HRB := hide1 hrB
        have HKS := hide1 hks
        have hmn : m ≤ n := by omega
        have hszw : w.heap.size ≤ wB.heap.size := by omega
        have HPB : Hid (POwn wB w.heap.size (.slice a6 Sn c6) (sB.reverse ++ (sA.drop 0).reverse)) := by
          rw [List.drop_zero, ← hSx]
          exact owns_same HT3.out (fun q hq => HKB.out.2.2.2.2 q (ownsRow_lt HT3.out q hq).2)
        have HKK := hide1 hK
        have HSNK := hide1 hSnK
        have HPUT := hide1 (fun (a1 a2 c : Nat) (Y : Nd) (vS' : Value) (w' : World) => TallI.put (N := N) (M := M) (V := V) (R := R') (x := x) (n := n) (base := w.heap.size) (s := s) (k := i) (m := m) (a1 := a1) (a2 := a2) (b := b) (c := c) (t := t) (S2 := sB.reverse) (vS := .slice a6 Sn c6) (vS' := vS') (w0 := w) (w := wr) (w' := w') (Y := Y))
        have HFO : Hid (Forest R' M wr.heap.size wr) := fun c hc => ⟨(HT6.out c hc).1.at (fun q hq => (HT4.out q hq).2.1), (HT6.out c hc).2.1⟩
        clear hSx hmade hmay hSA hSB hAK hL2 h8 hrev hsize hrA hrB hks hKl hnd hkde hnne hK hSnK
        go_wp2_with fail
        go_loopw [6, 9, 10] (fun v6 v9 v10 wq => ∃ q : Nat, q ≤ K ∧ v10 = .int .i64 (q : Int) ∧ v6 = .slice a6 (L2 + (K - q)) c6 ∧ Hid (POwn wq w.heap.size (.slice a6 (L2 + (K - q)) c6) (sB.reverse ++ (sA.drop q).reverse) ∧ POwn wq wB.heap.size v9 (sA.take q) ∧ Kept wB wq)) (fun _ _ v10 _ => K - (intOf v10).toNat)
        case atStart => exact ⟨0, Nat.zero_le _, rfl, by rw [HSNK.out, Nat.sub_zero], by rw [Nat.sub_zero, ← HSNK.out]; exact HPB.out, ⟨rfl, Or.inl ⟨rfl, rfl⟩⟩, Kept.refl _⟩
        case round =>
          obtain ⟨q, hq, rfl, rfl, HQ⟩ := hrel
          have q4r := grown_cell HQ.out.2.2 q4
          by_cases hlt : q < K
          · obtain ⟨c, hc⟩ : ∃ c, sA[q]? = some c := ⟨_, List.getElem?_eq_getElem (by rw [HAK.out]; exact hlt)⟩
            have hPq := HQ.out.1
            rw [drop_rev hc, ← List.append_assoc] at hPq
            obtain ⟨L, hL⟩ : ∃ L, L2 + (K - q) = L + 1 := ⟨L2 + (K - q) - 1, by omega⟩
            have hLA : (sB.reverse ++ (sA.drop (q + 1)).reverse).length = L := by rw [List.length_append, List.length_reverse, List.length_reverse, List.length_drop, HAK.out, HL2.out]; omega
            rw [hL] at hPq ⊢
            obtain ⟨gs, cs, e6, hcs, _⟩ := hPq.cell (i := L) (b := c) (by rw [List.getElem?_append_right (by omega), hLA]; simp)
            injection e6 with e61 e62 e63
            subst e61
            have hcap6 : L + 1 ≤ c6 := by rw [e63, e62]; exact hcs
            have hLc : L ≤ c6 := by omega
            have hLcI : (L : Int) ≤ (c6 : Int) := by omega
            have hc60 : ¬ c6 = 0 := by omega
            have cT := hPq.last hLA
            have HPOP := hide1 (hPq.pop hLA)
            obtain ⟨a9, c9, h9⟩ := HQ.out.2.1.form
            rw [List.length_take, HAK.out, Nat.min_eq_left hq] at h9
            subst h9
            have hlq : (sA.take q).length = q := by rw [List.length_take, HAK.out, Nat.min_eq_left hq]
            have HLQ := hide1 hlq
            have hqI : (q : Int) < (K : Int) := by omega
            have hLn : L ≤ 8000 := by have := HSNK.out; omega
            have hLI : (L : Int) ≤ 8000 := by omega
            have HCQ := hide1 hc
            have HLE : Hid (L = L2 + (K - (q + 1))) := (by omega : L = L2 + (K - (q + 1)))
            have hsr := HQ.out.2.2.size
            clear hPq hLA e62 e63 hlq hc hL hcs hcap6
            go_wp2_with (at_builtin; go_must (refine wpl_P rfl _ _ rfl _ wB.heap.size _ (sA.take q) q HLQ.out (by rfl) (owns_same (w' := wr.alloc (.cells #[.pointer (some ⟨c, 0, none⟩)] 27)) HQ.out.2.1 (fun p hp => heap_alloc_old wr _ (ownsRow_lt HQ.out.2.1 p hp).2)) wr.heap.size c (by rfl) (World.alloc_heap_new wr _) (by rw [HLQ.out]; omega) (by exact Nat.le_trans hsr (alloc_le wr _)) ?_; intro g6 c6' w6 ho6 hg6 hor6 hl6; have HO6 := hide1 ho6; have HG6 := hide1 hg6; clear ho6 hg6 hor6 hl6))
            have HC6 : Hid (∀ p, p < wr.heap.size → (Value.slice a9 q c9).ownBlock ≠ some p → w6.heap[p]? = wr.heap[p]?) := fun p h1 h2 => (HG6.out.block p (Nat.lt_of_lt_of_le h1 (alloc_le wr _)) (fun e => h2 e.symm)).trans (heap_alloc_old wr _ h1)
            have HFIN : Hid (POwn w6 w.heap.size (.slice (some ⟨gs, 0, none⟩) (L2 + (K - (q + 1))) c6) (sB.reverse ++ (sA.drop (q + 1)).reverse) ∧ POwn w6 wB.heap.size (.slice (some ⟨g6, 0, none⟩) (q + 1) c6') (sA.take (q + 1)) ∧ Kept wB w6) := by
              refine ⟨?_, ?_, ?_⟩
              · rw [← HLE.out]
                refine owns_same HPOP.out (fun p hp => HC6.out p (ownsRow_lt HPOP.out p hp).2 (fun e => ?_))
                have h1 := (ownsRow_lt HQ.out.2.1 p e).1
                have h2 := (ownsRow_lt HT3.out p (by rw [← hp]; rfl)).2
                omega
              · obtain ⟨hj2, hb2⟩ := List.getElem?_eq_some_iff.1 HCQ.out
                rw [List.take_succ_eq_append_getElem hj2, hb2]
                exact HO6.out
              · have hk := HQ.out.2.2
                exact ⟨HG6.out.os.trans hk.1, HG6.out.tape.trans hk.2.1, HG6.out.output.trans hk.2.2.1, Nat.le_trans hk.2.2.2.1 (Nat.le_trans (alloc_le wr _) HG6.out.size), fun p hp => (HC6.out p (Nat.lt_of_lt_of_le hp hk.2.2.2.1) (fun e => by have := (ownsRow_lt HQ.out.2.1 p e).1; omega)).trans (hk.2.2.2.2 p hp)⟩
            clear HC6 HG6 HO6 cT HPOP
            go_roundw
            case rel => exact ⟨q + 1, by omega, by go_num, by rw [HLE.out], HFIN⟩
            case measure => simp [intOf]; omega
          · have hqK : q = K := by omega
            subst hqK
            rw [Nat.sub_self, Nat.add_zero]
            have HPS : Hid (POwn wr w.heap.size (.slice a6 L2 c6) sB.reverse) := by
              have h := HQ.out.1
              rw [Nat.sub_self, Nat.add_zero, List.drop_eq_nil_of_le (by rw [HAK.out]; exact Nat.le_refl _), List.reverse_nil, List.append_nil] at h
              exact h
            have HPK : Hid (POwn wr wB.heap.size u9 sA) := by
              have h := HQ.out.2.1
              rw [List.take_of_length_le (by rw [HAK.out]; exact Nat.le_refl _)] at h
              exact h
            have HKr := hide1 HQ.out.2.2
            have q0r := grown_cell HQ.out.2.2 q0
            have q1r := grown_cell HQ.out.2.2 q1
            have hsr := HQ.out.2.2.size
            have HKr0 : Hid (Kept _ wr) := gtrans HKB.out HQ.out.2.2
            have HNr : Hid (∀ c ∈ sA, NodeAt wr.heap.size wr c (M c)) := fun c hc => ((HT6.out c (HRA.out c hc)).1.at (fun p hp => Nat.lt_of_lt_of_le (HT4.out p hp).2.1 HKr0.out.size)).keep HKr0.out
            have HMAKE := hide1 (make_okN M wr.heap.size s m kd nn sA u9 wr (HT1.out.keep HKr0.out) (HPK.out.ptrsN (by rw [HAK.out]; omega)) HNr.out (Nat.le_refl _) (fun c hc => (HT6.out c (HRA.out c hc)).2.1.1) (by omega) HMY.out (by unfold ownP; rw [List.all_eq_true]; intro c hc; simp [(HT6.out c (HRA.out c hc)).2.2]) HSZ.out)
            have hL2n : L2 ≤ n := by have := HSNK.out; omega
            clear HQ
            go_wp2_with (first
              | (go_at_call 24; refine HMAKE.out.mono ?_; rintro e w5 ⟨c5, rfl, hc5, hk5, hs5, hn5, hrl5⟩; have HK5 := hide1 hk5; have HS5 := hide1 hs5; have HN5 := hide1 (nodeV_of (A := wr.heap.size) hn5 hc5 (Or.inl hrl5)); have hs5B : wr.heap.size ≤ w5.heap.size := hk5.2.2.2.1; have HP5 := hide1 (show POwn w5 w.heap.size (.slice a6 L2 c6) sB.reverse from owns_same HPS.out (fun p hp => hk5.2.2.2.2 p (ownsRow_lt HPS.out p hp).2 (by have := (ownsRow_lt HPS.out p hp).1; omega))); clear hk5 hs5 hn5 hrl5)
              | (at_builtin; go_must (refine wpl_P rfl _ _ rfl _ w.heap.size _ sB.reverse L2 (by rw [List.length_reverse]; exact HL2.out) (by rfl) (owns_same (w' := w5.alloc (.cells #[.pointer (some ⟨c5, 0, none⟩)] 27)) HP5.out (fun p hp => heap_alloc_old w5 _ (ownsRow_lt HP5.out p hp).2)) w5.heap.size c5 (by rfl) (World.alloc_heap_new w5 _) (by rw [List.length_reverse, HL2.out]; omega) (by exact Nat.le_trans (Nat.le_trans (Nat.le_trans hszw hsr) hs5B) (alloc_le w5 _)) ?_; intro g6 c6' w6 ho6 hg6 hor6 hl6; have HO6 := hide1 ho6; have HG6 := hide1 hg6; have HOR6 := hide1 hor6; clear ho6 hg6 hor6 hl6)))
            have hs56 : w5.heap.size + 1 ≤ w6.heap.size := by have := HG6.out.size; simp at this; omega
            have HC6 : Hid (∀ p, p < w5.heap.size → (Value.slice a6 L2 c6).ownBlock ≠ some p → w6.heap[p]? = w5.heap[p]?) := fun p h1 h2 => (HG6.out.block p (Nat.lt_of_lt_of_le h1 (alloc_le w5 _)) (fun e => h2 e.symm)).trans (heap_alloc_old w5 _ h1)
            have HFIN : Hid (TallI N x n w.heap.size s w i (.slice (some ⟨g6, 0, none⟩) (L2 + 1) c6') w6) := by
              have hP3 := ownsRow_lt HT3.out
              have hV4 := HT4.out
              have hgr := HG6.out
              have hown := own_len a6 L2 Sn c6
              have hkr0s := HKr0.out.size
              refine HPUT.out wr.heap.size w5.heap.size c5 (makeN M s m kd nn sA) _ w6 ?_ (by omega) HT4.out (fun p hp => (hP3 p hp).2) ⟨by omega, fun p hp => ?_⟩ HT6.out hkr0s hs5B (by omega) t5 ?_ ?_ rfl HO6.out ?_ HRB.out ?_ (by rw [List.reverse_reverse]; exact HSB.out) HP1.out ?_
              · exact (HC6.out s HS5.out.lt (fun e => by rw [hown] at e; have := (hP3 s e).1; omega)).trans HS5.out
              · obtain ⟨v1, v2, v3⟩ := hV4 p hp
                exact (HC6.out p (by omega) (by rw [hown]; exact v3)).trans ((HK5.out.2.2.2.2 p (by omega) (by omega)).trans (HKr0.out.2.2.2.2 p v2))
              · exact HN5.out.kx ⟨by omega, fun p hp => HC6.out p hp.2 (fun e => by rw [hown] at e; have := (hP3 p e).2; omega)⟩
              · refine ⟨makeN_ok (fun c hc => (HT6.out c (HRA.out c hc)).2.1.1) HSZ.out, fun h => ?_, fun p hp => ?_, ?_⟩
                · exact absurd h hkd
                · have h2 : p.1 ∈ (kidG M 0 sA).map Prod.fst := List.mem_map.2 ⟨p, hp, rfl⟩
                  rw [kidG_fst] at h2
                  exact HRA.out _ h2
                · show 1 + sizeS M sA = 1 + sizeS M ((kidG M 0 sA).map Prod.fst)
                  rw [kidG_fst]
              · rcases HOR6.out with h | h
                · exact Or.inl (by rw [← hown, h]; rfl)
                · refine Or.inr ⟨g6, rfl, ?_⟩
                  rw [h]
                  exact alloc_le w5 _
              · intro M' hM1 hM2
                have hRk : ∀ c, R' c → ∀ p ∈ (M c).kids, R' p.1 := fun c hc => (HT6.out c hc).2.1.2.2.1
                have hR0 : rowsL N ks = rowsL M sA := Sames.rows HF.out HFO.out HSA.out (fun p hp => by
                  have h1 : p ∈ (N b).kids.map Prod.fst := by rw [HKS.out]; exact hp
                  obtain ⟨z, hz, rfl⟩ := List.mem_map.1 h1
                  exact (HF.out b HP3.out).2.2.2.1 z hz) HRA.out
                refine same_make HMD.out (M := M') (s' := s) (m' := m) (ks' := sA) ?_ ?_ ?_
                · rw [hM2]
                  exact (makeN_congr (fun c hc => hM1 c (HRA.out c hc))).symm
                · rw [rowsL_congr hRk hM1 HRA.out]
                  exact hR0
                · exact Sames.congr hRk hM1 HRA.out HSA.out
              · have h9 := HT9.out.trans ((HKr0.out.tbut s).trans HK5.out)
                exact ⟨hgr.os.trans h9.1, hgr.tape.trans h9.2.1, hgr.output.trans h9.2.2.1, by have := h9.2.2.2.1; omega, fun p h1 h2 => (HC6.out p (Nat.lt_of_lt_of_le h1 h9.2.2.2.1) (fun e => by rw [hown] at e; have := (hP3 p e).1; omega)).trans (h9.2.2.2.2 p h1 h2)⟩
            clear HC6 HG6 HO6 HOR6
            go_roundw
            case rel => exact ⟨i, by omega, by go_num, HFIN⟩
            case measure => simp [intOf]

end Tr
end Ex
end Go.Proofs.Ytbmobfogddeikaa
