import Derived.Test.YteckbpmliahhhaaMDeA1
import Derived.Test.YteckbpmliahhhaaMDeBd
import Derived.Test.YteckbpmliahhhaaMDeMa
import Derived.Test.YteckbpmliahhhaaMDeLl
import Derived.Test.YteckbpmliahhhaaMDeFi
import Derived.BigQuiet
namespace Go.Proofs.Yteckbpmliahhhaa
open Go.RowKit Go.Maps
attribute [local go_sem] Oper.semAt_some
set_option linter.unusedVariables false
namespace Ex
namespace Tr

/-- The program's nodes: those of the grove, and those that were made. -/
structure PgS (P : List Nat) (N0 : Nat → Nd) (s M0 n0 : Nat) (g : Nat → Nat) (its : List ItM) (newP : List Nat) (N : Nat → Nd) : Prop where
  fo : FoOk (P ++ newP) N s
  old : ∀ b ∈ P, N b = N0 b
  len : newP.length = its.length ∧ P.length = n0
  nw : ∀ (t : Nat) (x : ItM), its[t]? = some x → ∃ mt, M0 ≤ mt ∧ ((x.lf = true ∧ N (atL (P ++ newP) (n0 + t)) = leafN s mt x.l0 x.l1 x.l2 x.l3) ∨ (x.lf = false ∧ N (atL (P ++ newP) (n0 + t)) = makeN N s mt x.kd x.nn (x.js.map (atL (P ++ newP)))))
  sz : ∀ r, r < n0 + its.length → (N (atL (P ++ newP) r)).size = pszI n0 g its r
theorem atL_new (P newP : List Nat) (b : Nat) : atL (P ++ (newP ++ [b])) (P.length + newP.length) = b := by
  unfold atL
  rw [← List.append_assoc, List.getElem?_append_right (by simp), List.length_append, Nat.sub_self]
  rfl
theorem atL_old {P newP : List Nat} {b r : Nat} (h : r < P.length + newP.length) : atL (P ++ (newP ++ [b])) r = atL (P ++ newP) r := by
  rw [← List.append_assoc]
  exact atL_app (by rw [List.length_append]; exact h)
theorem PgS.start {P : List Nat} {N0 : Nat → Nd} {s M0 n0 : Nat} {g : Nat → Nat} (hfo : FoOk P N0 s) (hn : P.length = n0) (hg : ∀ r, r < n0 → g r = (N0 (atL P r)).size) : PgS P N0 s M0 n0 g [] [] N0 := by
  refine ⟨by rw [List.append_nil]; exact hfo, fun _ _ => rfl, ⟨rfl, hn⟩, fun t x hx => by simp at hx, fun r hr => ?_⟩
  simp only [List.length_nil, Nat.add_zero] at hr
  rw [List.append_nil]
  unfold pszI
  rw [if_pos hr, hg r hr]
theorem PgS.add {P newP : List Nat} {N0 N : Nat → Nd} {s M0 n0 m b j : Nat} {g : Nat → Nat} {its : List ItM} {row : List Nat} {y : ItM} {Y : Nd} (h : PgS P N0 s M0 n0 g its newP N) (hK : ApK n0 g its row j) (hb : b ∉ P ++ newP) (hm : M0 ≤ m) (h1 : NdOk Y) (h2 : Y.kind = 1 → Y.kids = []) (h3 : ∀ q ∈ Y.kids, q.1 ∈ P ++ newP) (h4 : Y.size = 1 + sizeS N (Y.kids.map Prod.fst)) (h5 : Y.st = s) (hz : Y.size = y.sz) (hjs : ∀ r ∈ y.js, r < n0 + its.length)
    (hy : (y.lf = true ∧ Y = leafN s m y.l0 y.l1 y.l2 y.l3) ∨ (y.lf = false ∧ Y = makeN N s m y.kd y.nn (y.js.map (atL (P ++ newP))))) : PgS P N0 s M0 n0 g (its ++ [y]) (newP ++ [b]) (fun d => if d = b then Y else N d) := by
  obtain ⟨l1, l2⟩ := h.len
  have hmem : ∀ r, r < n0 + its.length → atL (P ++ newP) r ∈ P ++ newP := fun r hr => atL_mem (by rw [List.length_append]; omega)
  have hne : ∀ r, r < n0 + its.length → atL (P ++ newP) r ≠ b := fun r hr e => hb (e ▸ hmem r hr)
  have hat : ∀ r, r < n0 + its.length → atL (P ++ (newP ++ [b])) r = atL (P ++ newP) r := fun r hr => atL_old (by omega)
  have hnb : atL (P ++ (newP ++ [b])) (n0 + its.length) = b := by rw [← l1, ← l2]; exact atL_new P newP b
  have hmap : ∀ ks : List Nat, (∀ r ∈ ks, r < n0 + its.length) → ks.map (atL (P ++ (newP ++ [b]))) = ks.map (atL (P ++ newP)) := fun ks hks => List.map_congr_left (fun r hr => hat r (hks r hr))
  have hmk : ∀ (mt : Nat) (kd nn : Int) (ks : List Nat), (∀ r ∈ ks, r < n0 + its.length) → makeN (fun d => if d = b then Y else N d) s mt kd nn (ks.map (atL (P ++ newP))) = makeN N s mt kd nn (ks.map (atL (P ++ newP))) := fun mt kd nn ks hks => mkN_congr (fun d hd => by
    obtain ⟨r, hr, rfl⟩ := List.mem_map.1 hd
    exact if_neg (hne r (hks r hr)))
  refine ⟨?_, fun d hd => ?_, ⟨by simp [l1], l2⟩, fun t x hx => ?_, fun r hr => ?_⟩
  · rw [← List.append_assoc]
    exact h.fo.add hb h1 h2 h3 h4 h5
  · have : d ≠ b := fun e => hb (e ▸ List.mem_append_left _ hd)
    try dsimp only
    rw [if_neg this]
    exact h.old d hd
  · by_cases ht : t < its.length
    · rw [List.getElem?_append_left ht] at hx
      obtain ⟨mt, e1, e2⟩ := h.nw t x hx
      have hx2 := (hK.it t x hx).1
      have hx3 : ∀ r ∈ x.js, r < n0 + its.length := fun r hr => by have := hx2 r hr; omega
      refine ⟨mt, e1, ?_⟩
      rw [hat (n0 + t) (by omega), hmap x.js hx3, hmk mt x.kd x.nn x.js hx3]
      try dsimp only
      rw [if_neg (hne (n0 + t) (by omega))]
      exact e2
    · rw [List.getElem?_append_right (by omega)] at hx
      have h9 : t - its.length < 1 := by have := (List.getElem?_eq_some_iff.1 hx).1; simpa using this
      obtain rfl : t = its.length := by omega
      rw [Nat.sub_self] at hx
      have hxy : x = y := by simpa using hx.symm
      rw [hxy]
      refine ⟨m, hm, ?_⟩
      rw [hnb, hmap y.js hjs, hmk m y.kd y.nn y.js hjs]
      try dsimp only
      rw [if_pos rfl]
      exact hy
  · rw [List.length_append, List.length_singleton] at hr
    by_cases hr2 : r < n0 + its.length
    · rw [hat r hr2]
      try dsimp only
      rw [if_neg (hne r hr2), h.sz r hr2]
      unfold pszI
      split
      · rfl
      · rw [List.getElem?_append_left (by omega)]
    · obtain rfl : r = n0 + its.length := by omega
      rw [hnb]
      try dsimp only
      rw [if_pos rfl, psz_new, hz]
theorem PgS.sizes {P newP : List Nat} {N0 N : Nat → Nd} {s M0 n0 : Nat} {g : Nat → Nat} {its : List ItM} (h : PgS P N0 s M0 n0 g its newP N) (ks : List Nat) (hks : ∀ r ∈ ks, r < n0 + its.length) : sizeS N (ks.map (atL (P ++ newP))) = sumZ n0 g its ks := by
  unfold sizeS sumZ
  rw [List.map_map]
  congr 1
  exact List.map_congr_left (fun r hr => h.sz r (hks r hr))
/-- While steps are done. -/
def PgI (P : List Nat) (N0 : Nat → Nd) (n0 : Nat) (g : Nat → Nat) (kp : Int → Bool) (l : List OpM) (R : Int × List ItM × List Nat) (f : Int → Option Nat) (M0 s base bb mb n A : Nat) (w : World) (j : Nat) (wr : World) : Prop :=
  ∃ V newP N m rv its row, BdM base bb s mb V (P ++ newP) N m n f rv (row.map (atL (P ++ newP))) wr ∧ PgS P N0 s M0 n0 g its newP N ∧ ApK n0 g its row j ∧ apF n0 g kp (l.drop j) its row = R ∧ M0 ≤ m ∧ m ≤ M0 + j ∧ KAS A s w wr
/-- What Apply answers. -/
def PgOut (P : List Nat) (N0 : Nat → Nd) (n0 : Nat) (g : Nat → Nat) (R : Int × List ItM × List Nat) (M0 s : Nat) (w : World) (e : Ending) (w' : World) : Prop :=
  KeptBut s w w' ∧ (∃ m, StoreAt w' s m ∧ M0 ≤ m ∧ m ≤ M0 + 300) ∧
  ((R.1 ≠ 0 ∧ e = .returned (.tuple #[.pointer none, .int .i64 R.1])) ∨
   (R.1 = 0 ∧ R.2.2.length ≠ 1 ∧ e = .returned (.tuple #[.pointer none, .int .i64 150])) ∨
   (R.1 = 0 ∧ ∃ r V newP N, R.2.2 = [r] ∧ r < n0 + R.2.1.length ∧ e = .returned (.tuple #[.pointer (some ⟨atL (P ++ newP) r, 0, none⟩), .int .i64 0]) ∧ PgS P N0 s M0 n0 g R.2.1 newP N ∧ (∀ d ∈ P ++ newP, NdV V w' d (N d)) ∧ ∀ k, V k → k < w'.heap.size))
set_option linter.unusedSimpArgs false in
set_option maxRecDepth 100000 in
set_option maxHeartbeats 8000000 in
theorem applyD_any (P : List Nat) (N0 : Nat → Nd) (V0 : Nat → Prop) (s M0 a b0 n0 L : Nat) (g : Nat → Nat) (kp : Int → Bool) (l : List OpM) (va : Option Addr) (vc : Nat) (w : World) (hV0 : ∀ k, V0 k → k < w.heap.size ∧ k ≠ s) (hN : ∀ c ∈ P, NdV V0 w c (N0 c)) (hst : StoreAt w s M0) (hM0 : M0 ≤ 4611686018420000000) (hfo : FoOk P N0 s) (hnum : NumOk (fun c => c ∈ P) N0) (ha : a ∈ P) (hn0 : P.length = n0) (hg : ∀ r, r < n0 → g r = (N0 (atL P r)).size ∧ g r ≤ 1500)
    (hkp : ∀ id, nodeF N0 (walkL N0 a) id = if kp id then some (atL P (id - 1).toNat) else none) (hkr : ∀ id, kp id = true → (id - 1).toNat < n0) (hfit : ∀ x ∈ l, fits x.d1) (hl : LO opE w b0 (.slice va L vc) l) (hL : l.length = L) (hL3 : L ≤ 300) (hb0 : s < b0) :
    Calls Try.prog 7 #[.pointer (some ⟨s, 0, none⟩), .pointer (some ⟨a, 0, none⟩), .slice va L vc] w (PgOut P N0 n0 g (apF n0 g kp l [] []) M0 s w) := by
  have hF0 : Forest (fun c => c ∈ P) N0 w.heap.size w := hfo.forest hN (fun k hk => (hV0 k hk).1)
  have HNO := hide1 (nodes_is (fun c => c ∈ P) N0 w.heap.size a w hF0 hnum ha (Nat.le_refl _))
  obtain ⟨f, hf⟩ : ∃ f, nodeF N0 (walkL N0 a) = f := ⟨_, rfl⟩
  rw [hf] at HNO hkp
  obtain ⟨R, hR⟩ : ∃ R, apF n0 g kp l [] [] = R := ⟨_, rfl⟩
  rw [hR]
  have hsl := hst.lt
  have HLR : Hid (∀ W, KAS w.heap.size s w W → ∀ (j : Nat) (o : OpM), l[j]? = some o → ∃ g, va = some ⟨g, 0, none⟩ ∧ (W.cell? ⟨g, j * 9, none⟩ = some (.int .i64 o.d0) ∧ W.cell? ⟨g, j * 9 + 1, none⟩ = some (.int .i64 o.d1) ∧ W.cell? ⟨g, j * 9 + 2, none⟩ = some (.int .i64 o.d2) ∧ W.cell? ⟨g, j * 9 + 3, none⟩ = some (.int .i64 o.d3) ∧ W.cell? ⟨g, j * 9 + 4, none⟩ = some (.int .i64 o.d4)) ∧ W.cell? ⟨g, j * 9 + 5, none⟩ = some (.int .i64 o.d5) ∧ W.cell? ⟨g, j * 9 + 6, none⟩ = some (.int .i64 o.d6) ∧ W.cell? ⟨g, j * 9 + 7, none⟩ = some (.int .i64 o.d7) ∧ W.cell? ⟨g, j * 9 + 8, none⟩ = some (.int .i64 o.d8)) := fun W hW j o hj =>
    lo_op (hl.same (fun d hd => hW.2.2.2.2 d (hl.lt' d hd).2 (by have := (hl.lt' d hd).1; omega))) hj
  have HLS := hide1 hL
  have HV0 := hide1 hV0
  have HN := hide1 hN
  have HST := hide1 hst
  have HM0 := hide1 hM0
  have HFO := hide1 hfo
  have HG := hide1 hg
  have HKP := hide1 hkp
  have HKR := hide1 hkr
  have HFIT := hide1 hfit
  have HRR := hide1 hR
  have HN0 := hide1 hn0
  have hLI : (L : Int) ≤ 300 := by omega
  have hcI : (L : Int) ≤ (vc : Int) := by have h9 := hl.cap; rw [hL] at h9; omega
  clear hF0 hf hL hl hb0 hV0 hN hst hM0 hfo hnum ha hg hkp hkr hfit hR hn0
  go_enter Try.func7, Try.ntmps7
  go_upto_region 4 with (go_at_call 19; refine HNO.out.mono ?_; rintro e w1 ⟨mb, n, rfl, hmb, hn, hm1, hk1⟩; have HM1 := hide1 hm1; have HK1 := hide1 hk1; have HMB := hide1 hmb; clear hm1 hk1 hmb)
  obtain ⟨bb, hbb⟩ : ∃ bb, w1.heap.size = bb := ⟨_, rfl⟩
  obtain ⟨w2, hw2⟩ : ∃ w2, w1.alloc (.cells #[.pointer (some ⟨s, 0, none⟩), .map (some mb), .slice none 0 0] 65) = w2 := ⟨_, rfl⟩
  have hk2 : Kept w1 w2 := by rw [← hw2]; exact (Kept.refl w1).alloc _ _
  have hx2 : w2.heap[bb]? = some (.cells #[.pointer (some ⟨s, 0, none⟩), .map (some mb), .slice none 0 0] 65 (0, 0)) := by rw [← hw2, ← hbb]; exact World.alloc_heap_new w1 _
  have hs2 : bb + 1 = w2.heap.size := by rw [← hw2, ← hbb]; simp
  have hkw2 : Kept w w2 := gtrans HK1.out hk2
  have hws := HK1.out.size
  have hmbl := HM1.out.lt
  have hBd : BdM (bb + 1) bb s mb V0 P N0 M0 n f (.slice none 0 0) [] w2 := by
    have hmb := HMB.out
    refine ⟨hx2, HST.out.keep hkw2, HM1.out.same (hk2.2.2.2.2 mb hmbl), LO.nil _ _, ⟨by omega, by omega, by omega, by omega, by omega, by omega, by omega⟩, fun k hk => ?_, fun c hc => (HN.out c hc).kx ⟨hkw2.size, fun k hk => hkw2.2.2.2.2 k (HV0.out k hk).1⟩, fun c hc => by cases hc⟩
    obtain ⟨v1, v2⟩ := HV0.out k hk
    exact ⟨by omega, by omega, v2, by omega, fun e => by cases e⟩
  have hI0 : PgI P N0 n0 g kp l R f M0 s (bb + 1) bb mb n w.heap.size w 0 w2 := ⟨V0, [], N0, M0, _, [], [], by rw [List.append_nil]; exact hBd, PgS.start HFO.out HN0.out (fun r hr => (HG.out r hr).1), ApK.start n0 g, by rw [List.drop_zero]; exact HRR.out, Nat.le_refl _, Nat.le_refl _, hkw2.kas s (Nat.le_refl _)⟩
  have HI0 := hide1 hI0
  have hAb : w.heap.size ≤ bb := by omega
  rw [hbb, hw2]
  obtain ⟨base, hbase⟩ : ∃ base, bb + 1 = base := ⟨_, rfl⟩
  rw [hbase] at HI0
  clear hbb hw2 hk2 hx2 hs2 hkw2 hws hmbl hBd hI0 HK1 HM1 HMB hbase HNO HRR HN HV0
  go_wp2_with fail
  go_loopw [21] (fun v21 wr => ∃ j : Nat, j ≤ L ∧ v21 = .int .i64 (j : Int) ∧ Hid (PgI P N0 n0 g kp l R f M0 s base bb mb n w.heap.size w j wr)) (fun v21 _ => L - (intOf v21).toNat)
  case atStart => exact ⟨0, Nat.zero_le _, rfl, HI0⟩
  case round =>
    obtain ⟨j, hj, rfl, HI⟩ := hrel
    obtain ⟨V, newP, N, m, rv, its, row, hM, hS, hA, hF, hm0, hm1, hK⟩ := HI.out
    by_cases hjL : j < L
    · have hjI : (j : Int) < (L : Int) := by omega
      obtain ⟨o, hx⟩ : ∃ x, l[j]? = some x := ⟨_, List.getElem?_eq_getElem (by rw [HLS.out]; exact hjL)⟩
      obtain ⟨g9, rfl, ⟨e0, e1, e2, e3, e4⟩, e5, e6, e7, e8⟩ := HLR.out wr hK j o hx
      rw [drop_atA hx] at hF
      have hfx := HFIT.out o (List.mem_of_getElem? hx)
      have hAw : w.heap.size ≤ wr.heap.size := hK.2.2.2.1
      have hrl := hA.ln.1
      have hmm := HM0.out
      have hrlm : (row.map (atL (P ++ newP))).length ≤ 4194304 := by rw [List.length_map]; omega
      have HM := hide1 hM
      have HS := hide1 hS
      have HA := hide1 hA
      have HK := hide1 hK
      have HKO : Hid (∀ W, Kept wr W → KeptBut s w W ∧ ∃ m, StoreAt W s m ∧ M0 ≤ m ∧ m ≤ M0 + 300) := fun W hW => ⟨KAS.kept ((Kept.refl w).tbut s) (HK.out.trans (hW.kas s hAw)), m, HM.out.st.keep hW, hm0, by omega⟩
      clear hx HI
      by_cases hk1 : isK o = true
      · obtain ⟨id, rfl⟩ := isK_eq hk1
        dsimp only at e0 e1 e2 e3 e4 e5 e6 e7 e8 hfx
        have hfid := HKP.out id
        cases hkid : kp id with
        | true =>
          rw [hkid, if_pos rfl] at hfid
          have hrn := HKR.out id hkid
          rw [apF_keep hkid] at hF
          have hcS : atL P (id - 1).toNat ∈ P ++ newP := List.mem_append_left _ (atL_mem (by rw [HN0.out]; exact hrn))
          have hat : atL (P ++ newP) (id - 1).toNat = atL P (id - 1).toNat := by
            unfold atL
            rw [List.getElem?_append_left (by rw [HN0.out]; exact hrn)]
          have HDO : Hid (∀ W, Kept wr W → Calls Try.prog 20 #[.pointer (some ⟨bb, 0, none⟩), .agg #[.int .i64 1, .int .i64 id, .int .i64 0, .int .i64 0, .int .i64 0, .int .i64 0, .int .i64 0, .int .i64 0, .int .i64 0]] W fun e w' => e = .returned (.int .i64 0) ∧ BdR base bb s mb w.heap.size V (P ++ newP) N m n f ((row ++ [(id - 1).toNat]).map (atL (P ++ newP))) W w') := fun W hW => by
            rw [List.map_append, List.map_singleton, hat]
            exact doB_keep base bb s mb w.heap.size V (P ++ newP) N m n f rv _ W (hM.keep hW) id _ hfid hfx hcS hrlm hAb (Nat.le_trans hAw hW.size)
          have HNX : Hid (ApK n0 g its (row ++ [(id - 1).toNat]) (j + 1)) := hA.keep hrn (HG.out _ hrn).2
          have HF2 := hide1 hF
          clear hM hS hA hK hF hfid hfx hcS hat hkid hrn hk1 HKO
          go_wp2_with (go_at_call 20; refine (HDO.out _ ((Kept.refl wr).alloc _ _)).mono ?_; rintro e w3 ⟨rfl, rv3, h3, h4⟩; have H3 := hide1 h3; have H4 := hide1 h4; clear h3 h4)
          have HFIN : Hid (PgI P N0 n0 g kp l R f M0 s base bb mb n w.heap.size w (j + 1) w3) := ⟨V, newP, N, m, rv3, its, _, H3.out, HS.out, HNX.out, HF2.out, hm0, by omega, HK.out.trans ((((Kept.refl wr).alloc _ _).kas s hAw).trans H4.out)⟩
          exact ⟨⟨j + 1, by omega, by simp, HFIN⟩, by simp [intOf] <;> omega⟩
        | false =>
          rw [hkid, if_neg (by simp)] at hfid
          rw [apF_kno hkid] at hF
          have HDO : Hid (∀ W, Kept wr W → Calls Try.prog 20 #[.pointer (some ⟨bb, 0, none⟩), .agg #[.int .i64 1, .int .i64 id, .int .i64 0, .int .i64 0, .int .i64 0, .int .i64 0, .int .i64 0, .int .i64 0, .int .i64 0]] W fun e w' => e = .returned (.int .i64 150) ∧ Kept W w') := fun W hW => doB_kno base bb s mb V (P ++ newP) N m n f rv _ W (hM.keep hW) id hfid hfx
          have HF2 := hide1 hF
          clear hM hS hA hK hF hfid hfx hkid hk1
          go_wp2_with (go_at_call 20; refine (HDO.out _ ((Kept.refl wr).alloc _ _)).mono ?_; rintro e w3 ⟨rfl, h3⟩; have H3 := hide1 h3; clear h3)
          go_ret2
          obtain ⟨p1, p2⟩ := HKO.out _ (gtrans ((Kept.refl wr).alloc _ _) H3.out)
          exact ⟨p1, p2, Or.inl (by rw [← HF2.out]; exact ⟨by simp, rfl⟩)⟩
      · have hk1' : isK o = false := by simpa using hk1
        clear hk1
        by_cases hk2 : isL o = true
        · obtain ⟨l0, l1, l2, l3, rfl⟩ := isL_eq hk2
          dsimp only at e0 e1 e2 e3 e4 e5 e6 e7 e8
          rw [apF_leaf] at hF
          have HDO : Hid (∀ W, Kept wr W → Calls Try.prog 20 #[.pointer (some ⟨bb, 0, none⟩), .agg #[.int .i64 2, .int .i64 0, .int .i64 0, .int .i64 0, .int .i64 0, .int .i64 l0, .int .i64 l1, .int .i64 l2, .int .i64 l3]] W fun e w' => e = .returned (.int .i64 0) ∧ BdN base bb s mb w.heap.size (P ++ newP) N m n f (leafN s m l0 l1 l2 l3) (row.map (atL (P ++ newP))) W w') := fun W hW => doB_leaf base bb s mb w.heap.size V (P ++ newP) N m n f rv _ W (hM.keep hW) l0 l1 l2 l3 (by omega) hrlm hAb (Nat.le_trans hAw hW.size)
          have HNX : Hid (ApK n0 g (its ++ [leafIt l0 l1 l2 l3]) (row ++ [n0 + its.length]) (j + 1)) := ApK.more (ks := []) (by rw [List.append_nil]; exact hA) (by omega) (fun r hr => by cases hr) (Nat.le_refl _) (by show 1 ≤ _; omega) (Or.inl ⟨rfl, rfl⟩)
          have HNP : Hid (∀ d, d ∉ P ++ newP → PgS P N0 s M0 n0 g (its ++ [leafIt l0 l1 l2 l3]) (newP ++ [d]) (fun k => if k = d then leafN s m l0 l1 l2 l3 else N k)) := fun d hd => HS.out.add HA.out hd hm0 (leafN_ok s m l0 l1 l2 l3) (fun _ => rfl) (fun q hq => by cases hq) rfl rfl rfl (fun r hr => by cases hr) (Or.inl ⟨rfl, rfl⟩)
          have HRM : Hid (∀ d, (row ++ [n0 + its.length]).map (atL (P ++ (newP ++ [d]))) = row.map (atL (P ++ newP)) ++ [d]) := fun d => by
            obtain ⟨q1, q2⟩ := HS.out.len
            rw [List.map_append, List.map_singleton, ← q1, ← q2, atL_new]
            congr 1
            exact List.map_congr_left (fun r hr => atL_old (by have := HA.out.rw_ r hr; omega))
          have HF2 := hide1 hF
          clear hM hS hA hK hF hk1' hk2 hfx HKO
          go_wp2_with (go_at_call 20; refine (HDO.out _ ((Kept.refl wr).alloc _ _)).mono ?_; rintro e w3 ⟨rfl, V3, d, hd, hd2, rv3, h3, h4⟩; have H3 := hide1 h3; have H4 := hide1 h4; have HD := hide1 hd; clear h3 h4 hd hd2)
          have HFIN : Hid (PgI P N0 n0 g kp l R f M0 s base bb mb n w.heap.size w (j + 1) w3) := ⟨V3, newP ++ [d], _, m + 1, rv3, _, _, by rw [HRM.out d, ← List.append_assoc]; exact H3.out, HNP.out d HD.out, HNX.out, HF2.out, by omega, by omega, HK.out.trans ((((Kept.refl wr).alloc _ _).kas s hAw).trans H4.out)⟩
          exact ⟨⟨j + 1, by omega, by simp, HFIN⟩, by simp [intOf] <;> omega⟩
        · have hk2' : isL o = false := by simpa using hk2
          clear hk2
          by_cases hk3 : isM o = true
          · obtain ⟨kd, nn, k, rfl⟩ := isM_eq hk3
            dsimp only at e0 e1 e2 e3 e4 e5 e6 e7 e8
            by_cases hko : k < 0 ∨ (row.length : Int) < k
            · rw [apF_out hko] at hF
              have HDO : Hid (∀ W, Kept wr W → Calls Try.prog 20 #[.pointer (some ⟨bb, 0, none⟩), .agg #[.int .i64 3, .int .i64 0, .int .i64 kd, .int .i64 nn, .int .i64 k, .int .i64 0, .int .i64 0, .int .i64 0, .int .i64 0]] W fun e w' => e = .returned (.int .i64 150) ∧ Kept W w') := fun W hW => doB_out base bb s mb V (P ++ newP) N m n f rv _ W (hM.keep hW) kd nn k (by rw [List.length_map]; exact hko) hrlm
              have HF2 := hide1 hF
              clear hM hS hA hK hF hk1' hk2' hk3 hko hfx
              go_wp2_with (go_at_call 20; refine (HDO.out _ ((Kept.refl wr).alloc _ _)).mono ?_; rintro e w3 ⟨rfl, h3⟩; have H3 := hide1 h3; clear h3)
              go_ret2
              obtain ⟨p1, p2⟩ := HKO.out _ (gtrans ((Kept.refl wr).alloc _ _) H3.out)
              exact ⟨p1, p2, Or.inl (by rw [← HF2.out]; exact ⟨by simp, rfl⟩)⟩
            · obtain ⟨r0, ks, hrow, hks⟩ : ∃ r0 ks, row = r0 ++ ks ∧ (ks.length : Int) = k := by
                refine ⟨row.take (row.length - k.toNat), row.drop (row.length - k.toNat), (List.take_append_drop _ _).symm, ?_⟩
                rw [List.length_drop]
                omega
              subst hks
              cases hmay : mayP kd nn with
              | false =>
                rw [apF_kind hko hmay] at hF
                rw [hrow, List.map_append] at hM hrlm
                have HDO : Hid (∀ W, Kept wr W → Calls Try.prog 20 #[.pointer (some ⟨bb, 0, none⟩), .agg #[.int .i64 3, .int .i64 0, .int .i64 kd, .int .i64 nn, .int .i64 (ks.length : Int), .int .i64 0, .int .i64 0, .int .i64 0, .int .i64 0]] W fun e w' => e = .returned (.int .i64 101) ∧ Kept W w') := fun W hW => by
                  have h9 := doB_kind base bb s mb V (P ++ newP) N m n f rv _ _ W (hM.keep hW) kd nn hmay hrlm
                  rw [List.length_map] at h9
                  exact h9
                have HF2 := hide1 hF
                obtain ⟨kl, hkl⟩ : ∃ kl, ks.length = kl := ⟨_, rfl⟩
                rw [hkl] at e4 HDO
                clear hM hS hA hK hF hk1' hk2' hk3 hko hfx hrow hmay hkl hrlm hrl
                go_wp2_with (go_at_call 20; refine (HDO.out _ ((Kept.refl wr).alloc _ _)).mono ?_; rintro e w3 ⟨rfl, h3⟩; have H3 := hide1 h3; clear h3)
                go_ret2
                obtain ⟨p1, p2⟩ := HKO.out _ (gtrans ((Kept.refl wr).alloc _ _) H3.out)
                exact ⟨p1, p2, Or.inl (by rw [← HF2.out]; exact ⟨by simp, rfl⟩)⟩
              | true =>
                rw [apF_make hrow hmay] at hF
                have hks : ∀ r ∈ ks, r < n0 + its.length := fun r hr => hA.rw_ r (by rw [hrow]; exact List.mem_append_right _ hr)
                have hr0 : ∀ r ∈ r0, r < n0 + its.length := fun r hr => hA.rw_ r (by rw [hrow]; exact List.mem_append_left _ hr)
                have hsz := hS.sizes ks hks
                have hsm := hA.sm
                rw [hrow, sumZ_app] at hsm
                have hmem : ∀ d ∈ ks.map (atL (P ++ newP)), d ∈ P ++ newP := fun d hd => by
                  obtain ⟨r, hr, rfl⟩ := List.mem_map.1 hd
                  obtain ⟨q1, q2⟩ := hS.len
                  exact atL_mem (by rw [List.length_append]; have := hks r hr; omega)
                rw [hrow, List.map_append] at hM hrlm
                have HDO : Hid (∀ W, Kept wr W → Calls Try.prog 20 #[.pointer (some ⟨bb, 0, none⟩), .agg #[.int .i64 3, .int .i64 0, .int .i64 kd, .int .i64 nn, .int .i64 (ks.length : Int), .int .i64 0, .int .i64 0, .int .i64 0, .int .i64 0]] W fun e w' => e = .returned (.int .i64 0) ∧ BdN base bb s mb w.heap.size (P ++ newP) N m n f (makeN N s m kd nn (ks.map (atL (P ++ newP)))) (r0.map (atL (P ++ newP))) W w') := fun W hW => by
                  have h9 := doB_make base bb s mb w.heap.size V (P ++ newP) N m n f rv _ _ W (hM.keep hW) kd nn (fun d hd => ⟨(HS.out.fo d (hmem d hd)).1, (HS.out.fo d (hmem d hd)).2.2.2.2⟩) (by omega) hmay (by rw [hsz]; omega) hrlm hAb (Nat.le_trans hAw hW.size)
                  rw [List.length_map] at h9
                  exact h9
                have hA2 : ApK n0 g its (r0 ++ ks) j := by rw [← hrow]; exact hA
                have HNX : Hid (ApK n0 g (its ++ [makeIt n0 g its kd nn ks]) (r0 ++ [n0 + its.length]) (j + 1)) := hA2.more (by omega) hks (by show 1 ≤ 1 + _; omega) (Nat.le_refl _) (Or.inr ⟨rfl, hmay, rfl⟩)
                have HNP : Hid (∀ d, d ∉ P ++ newP → PgS P N0 s M0 n0 g (its ++ [makeIt n0 g its kd nn ks]) (newP ++ [d]) (fun k => if k = d then makeN N s m kd nn (ks.map (atL (P ++ newP))) else N k)) := fun d hd => HS.out.add HA.out hd hm0 (makeN_ok (fun d hd => (HS.out.fo d (hmem d hd)).1) (by rw [hsz]; omega)) (fun e => absurd e (may_kd hmay).1) (fun q hq => hmem _ (by rw [← mk_kids N s m kd nn (ks.map (atL (P ++ newP)))]; exact List.mem_map_of_mem hq)) (by rw [mk_kids]; rfl) rfl (by show 1 + sizeS N _ = 1 + _; rw [hsz]) hks (Or.inr ⟨rfl, rfl⟩)
                have HRM : Hid (∀ d, (r0 ++ [n0 + its.length]).map (atL (P ++ (newP ++ [d]))) = r0.map (atL (P ++ newP)) ++ [d]) := fun d => by
                  obtain ⟨q1, q2⟩ := HS.out.len
                  rw [List.map_append, List.map_singleton, ← q1, ← q2, atL_new]
                  congr 1
                  exact List.map_congr_left (fun r hr => atL_old (by have := hr0 r hr; omega))
                have HF2 := hide1 hF
                obtain ⟨kl, hkl⟩ : ∃ kl, ks.length = kl := ⟨_, rfl⟩
                rw [hkl] at e4 HDO
                clear hM hS hA hA2 hK hF hk1' hk2' hk3 hko hfx hrow hmay hkl hrlm hrl hsz hsm hmem HKO
                go_wp2_with (go_at_call 20; refine (HDO.out _ ((Kept.refl wr).alloc _ _)).mono ?_; rintro e w3 ⟨rfl, V3, d, hd, hd2, rv3, h3, h4⟩; have H3 := hide1 h3; have H4 := hide1 h4; have HD := hide1 hd; clear h3 h4 hd hd2)
                have HFIN : Hid (PgI P N0 n0 g kp l R f M0 s base bb mb n w.heap.size w (j + 1) w3) := ⟨V3, newP ++ [d], _, m + 1, rv3, _, _, by rw [HRM.out d, ← List.append_assoc]; exact H3.out, HNP.out d HD.out, HNX.out, HF2.out, by omega, by omega, HK.out.trans ((((Kept.refl wr).alloc _ _).kas s hAw).trans H4.out)⟩
                exact ⟨⟨j + 1, by omega, by simp, HFIN⟩, by simp [intOf] <;> omega⟩
          · have hk3' : isM o = false := by simpa using hk3
            clear hk3
            rw [apF_wrong hk1' hk2' hk3'] at hF
            obtain ⟨d0, d1, d2, d3, d4, d5, d6, d7, d8⟩ := o
            dsimp only at e0 e1 e2 e3 e4 e5 e6 e7 e8
            have HDO : Hid (∀ W, Calls Try.prog 20 #[.pointer (some ⟨bb, 0, none⟩), .agg #[.int .i64 d0, .int .i64 d1, .int .i64 d2, .int .i64 d3, .int .i64 d4, .int .i64 d5, .int .i64 d6, .int .i64 d7, .int .i64 d8]] W fun e w' => e = .returned (.int .i64 150) ∧ Kept W w') := fun W => doB_wrong bb W d0 d1 d2 d3 d4 d5 d6 d7 d8 hk1' hk2' hk3'
            have HF2 := hide1 hF
            clear hM hS hA hK hF hk1' hk2' hk3' hfx
            go_wp2_with (go_at_call 20; refine (HDO.out _).mono ?_; rintro e w3 ⟨rfl, h3⟩; have H3 := hide1 h3; clear h3)
            go_ret2
            obtain ⟨p1, p2⟩ := HKO.out _ (gtrans ((Kept.refl wr).alloc _ _) H3.out)
            exact ⟨p1, p2, Or.inl (by rw [← HF2.out]; exact ⟨by simp, rfl⟩)⟩
    · obtain rfl : j = L := by omega
      rw [List.drop_of_length_le (by rw [HLS.out]; exact Nat.le_refl _)] at hF
      have hRe : R = (0, its, row) := hF.symm
      obtain ⟨L1, hL1⟩ : ∃ L1, (row.map (atL (P ++ newP))).length = L1 := ⟨_, rfl⟩
      obtain ⟨ra, rc, rfl⟩ : ∃ a c, rv = .slice a L1 c := by rw [← hL1]; exact hM.rl.form
      have q2 : wr.cell? ⟨bb, 2, none⟩ = some (.slice ra L1 rc) := by simp [World.cell?, hM.box]
      have HKO : Hid (KeptBut s w wr ∧ ∃ m, StoreAt wr s m ∧ M0 ≤ m ∧ m ≤ M0 + 300) := ⟨KAS.kept ((Kept.refl w).tbut s) hK, m, hM.st, hm0, by omega⟩
      have hL1r : row.length = L1 := by rw [← hL1, List.length_map]
      have hL1I : (L1 : Int) ≤ 300 := by have := hA.ln.1; omega
      by_cases h1 : L1 = 1
      · subst h1
        obtain ⟨r, hr⟩ : ∃ r, row = [r] := by
          cases row with
          | nil => simp at hL1r
          | cons c q =>
            cases q with
            | nil => exact ⟨c, rfl⟩
            | cons d q => simp at hL1r
        subst hr
        obtain ⟨g9, hg9⟩ := hM.rl.some (by simp)
        subst hg9
        have q0 : wr.cell? ⟨g9, 0, none⟩ = some (.pointer (some ⟨atL (P ++ newP) r, 0, none⟩)) := hM.rl.cell (i := 0) (j := 0) (x := atL (P ++ newP) r) rfl rfl
        have hc1 : (1 : Int) ≤ (rc : Int) := by have h9 := hM.rl.cap; simp at h9; omega
        have HOUT : Hid (PgOut P N0 n0 g R M0 s w (.returned (.tuple #[.pointer (some ⟨atL (P ++ newP) r, 0, none⟩), .int .i64 0])) wr) := ⟨HKO.out.1, HKO.out.2, Or.inr (Or.inr (by rw [hRe]; exact ⟨rfl, r, V, newP, N, rfl, hA.rw_ r List.mem_cons_self, rfl, hS, hM.nd, fun k hk => (hM.vs k hk).1⟩))⟩
        obtain ⟨z, hz⟩ : ∃ z, atL (P ++ newP) r = z := ⟨_, rfl⟩
        rw [hz] at q0 HOUT
        clear hM hS hA hK hF hRe hL1 hL1r HI HKO hz
        go_wp2_with fail
        go_ret2
        exact HOUT.out
      · have h1B : ((L1 : Int) != 1) = true := by simp; omega
        have HOUT : Hid (PgOut P N0 n0 g R M0 s w (.returned (.tuple #[.pointer none, .int .i64 150])) wr) := ⟨HKO.out.1, HKO.out.2, Or.inr (Or.inl (by rw [hRe]; exact ⟨rfl, by show row.length ≠ 1; omega, rfl⟩))⟩
        clear hM hS hA hK hF hRe hL1 hL1r HI HKO
        go_wp2_with fail
        go_ret2
        exact HOUT.out

end Tr
end Ex
end Go.Proofs.Yteckbpmliahhhaa
namespace Go.Proofs.Yteckbpmliahhhaa
open Go.RowKit
attribute [local go_sem] Oper.semAt_some
set_option linter.unusedVariables false
namespace Ex
namespace Tr

set_option linter.unusedSimpArgs false in
set_option maxRecDepth 100000 in
set_option maxHeartbeats 4000000 in
theorem right_k (id : Int) (w : World) :
    Calls Try.prog 17 #[.agg #[.int .i64 1, .int .i64 id, .int .i64 0, .int .i64 0, .int .i64 0, .int .i64 0, .int .i64 0, .int .i64 0, .int .i64 0]] w fun e w' => e = .returned (.bool true) ∧ Kept w w' := by
  go_enter Try.func17, Try.ntmps17
  go_wp2_with fail
  go_ret
  exact ⟨rfl, gtrans ((Kept.refl w).alloc _ _) ((Kept.refl _).alloc _ _)⟩
set_option linter.unusedSimpArgs false in
set_option maxRecDepth 100000 in
set_option maxHeartbeats 4000000 in
theorem right_l (l0 l1 l2 l3 : Int) (w : World) :
    Calls Try.prog 17 #[.agg #[.int .i64 2, .int .i64 0, .int .i64 0, .int .i64 0, .int .i64 0, .int .i64 l0, .int .i64 l1, .int .i64 l2, .int .i64 l3]] w fun e w' => e = .returned (.bool true) ∧ Kept w w' := by
  go_enter Try.func17, Try.ntmps17
  go_wp2_with fail
  go_ret
  exact ⟨rfl, gtrans ((Kept.refl w).alloc _ _) ((Kept.refl _).alloc _ _)⟩
set_option linter.unusedSimpArgs false in
set_option maxRecDepth 100000 in
set_option maxHeartbeats 4000000 in
theorem right_m (kd nn k : Int) (w : World) :
    Calls Try.prog 17 #[.agg #[.int .i64 3, .int .i64 0, .int .i64 kd, .int .i64 nn, .int .i64 k, .int .i64 0, .int .i64 0, .int .i64 0, .int .i64 0]] w fun e w' => e = .returned (.bool true) ∧ Kept w w' := by
  go_enter Try.func17, Try.ntmps17
  go_wp2_with fail
  go_ret
  exact ⟨rfl, gtrans ((Kept.refl w).alloc _ _) ((Kept.refl _).alloc _ _)⟩
set_option linter.unusedSimpArgs false in
set_option maxRecDepth 100000 in
set_option maxHeartbeats 4000000 in
theorem right_no (w : World) (d0 d1 d2 d3 d4 d5 d6 d7 d8 : Int) (h1 : isK ⟨d0, d1, d2, d3, d4, d5, d6, d7, d8⟩ = false) (h2 : isL ⟨d0, d1, d2, d3, d4, d5, d6, d7, d8⟩ = false) (h3 : isM ⟨d0, d1, d2, d3, d4, d5, d6, d7, d8⟩ = false) :
    Calls Try.prog 17 #[.agg #[.int .i64 d0, .int .i64 d1, .int .i64 d2, .int .i64 d3, .int .i64 d4, .int .i64 d5, .int .i64 d6, .int .i64 d7, .int .i64 d8]] w fun e w' => e = .returned (.bool false) ∧ Kept w w' := by
  have H1 := hide1 h1
  have H2 := hide1 h2
  have H3 := hide1 h3
  clear h1 h2 h3
  by_cases h4 : d4 = 0
  · have h4B : (d4 == (0 : Int)) = true := by rw [h4]; rfl
    go_enter Try.func17, Try.ntmps17
    go_wp2_with fail
    all_goals first
      | (go_ret; exact ⟨rfl, gtrans ((Kept.refl w).alloc _ _) ((Kept.refl _).alloc _ _)⟩)
      | (refine absurd H1.out ?_; simp [isK]; (repeat' apply And.intro) <;> first | assumption | (apply eq_of_beq; assumption))
      | (refine absurd H2.out ?_; simp [isL]; (repeat' apply And.intro) <;> first | assumption | (apply eq_of_beq; assumption))
      | (refine absurd H3.out ?_; simp [isM]; (repeat' apply And.intro) <;> first | assumption | (apply eq_of_beq; assumption))
  · have h4B : (d4 == (0 : Int)) = false := by simpa using h4
    go_enter Try.func17, Try.ntmps17
    go_wp2_with fail
    all_goals first
      | (go_ret; exact ⟨rfl, gtrans ((Kept.refl w).alloc _ _) ((Kept.refl _).alloc _ _)⟩)
      | (refine absurd H1.out ?_; simp [isK]; (repeat' apply And.intro) <;> first | assumption | (apply eq_of_beq; assumption))
      | (refine absurd H2.out ?_; simp [isL]; (repeat' apply And.intro) <;> first | assumption | (apply eq_of_beq; assumption))
      | (refine absurd H3.out ?_; simp [isM]; (repeat' apply And.intro) <;> first | assumption | (apply eq_of_beq; assumption))

end Tr
end Ex
end Go.Proofs.Yteckbpmliahhhaa
namespace Go.Proofs.Yteckbpmliahhhaa
open Go.RowKit
attribute [local go_sem] Oper.semAt_some
namespace Ex
namespace Tr

set_option linter.unusedSimpArgs false in
set_option maxRecDepth 100000 in
set_option maxHeartbeats 4000000 in
theorem madeG_is (P : Nat → Pn) (kind n : Int) (va : Option Addr) (vc m : Nat) (ks : List Nat) (w : World) (hv : Src pnE w va ks) (hm : ks.length = m) (hcap : m ≤ vc) (hkl : ks.length ≤ 4194304) (hP : ∀ k ∈ ks, PnAt w k (P k)) (hsz : ∀ k ∈ ks, 0 < (P k).size ∧ (P k).size ≤ 4194304) (hgood : 2 ≤ kind ∧ kind ≤ 5 ∧ 0 ≤ n ∧ (n ≠ 0 → kind = 2)) (hsum : 1 + szP P ks ≤ 4194304) :
    Calls Try.prog 15 #[.int .i64 kind, .int .i64 n, .slice va m vc] w fun e w' => ∃ b, e = .returned (.tuple #[.pointer (some ⟨b, 0, none⟩), .int .i64 0]) ∧ PnV (fun k => w.heap.size ≤ k ∧ k < w'.heap.size) w' b ⟨0, kind, n, 1 + szP P ks, 0, 0, 0, 0, ks⟩ ∧ Kept w w' := by
  rw [hm] at hkl
  have HM := hide1 hm
  have HSR := hide1 hv
  have hmI : (m : Int) ≤ 4194304 := by omega
  have hcI : (m : Int) ≤ (vc : Int) := by omega
  have HPR : Hid (∀ j, j < m → ∃ k g o, ks[j]? = some k ∧ va = some ⟨g, o, none⟩ ∧ w.cell? ⟨g, o + j, none⟩ = some (.pointer (some ⟨k, 0, none⟩)) ∧ w.cell? ⟨k, 3, none⟩ = some (.int .i64 (P k).size)) := fun j hj => by
    obtain ⟨k, hk⟩ : ∃ k, ks[j]? = some k := ⟨_, List.getElem?_eq_getElem (by rw [hm]; exact hj)⟩
    rcases hv with h0 | ⟨g, o, rfl, h1⟩
    · rw [h0] at hk; simp at hk
    have h2' := h1 j (.pointer (some ⟨k, 0, none⟩)) (by
      have e : ∀ l : List Nat, ∀ i k : Nat, l[i]? = some k → (flatE pnE l)[i]? = some (.pointer (some ⟨k, 0, none⟩)) := fun l => by
        induction l with
        | nil => intro i k h; simp at h
        | cons x l ih =>
          intro i k h
          cases i with
          | zero => simp only [List.getElem?_cons_zero, Option.some.injEq] at h; subst h; rfl
          | succ i => exact ih i k (by simpa using h)
      exact e ks j k hk)
    obtain ⟨a, c, h2, _⟩ := hP k (List.mem_of_getElem? hk)
    exact ⟨k, g, o, hk, rfl, h2', by simp [World.cell?, h2]⟩
  have HSZ := hide1 hsz
  have HSU := hide1 hsum
  obtain ⟨g1, g2, g3, g4⟩ := hgood
  clear hm hcap hkl hP hsz hsum
  by_cases hn0 : n = 0
  · subst hn0
    clear g4 g3
    go_enter Try.func15, Try.ntmps15
    go_wp2_with fail
    go_loopw [8, 9] (fun v8 v9 wr => ∃ (j : Nat) (sz : Int), v8 = .int .i64 sz ∧ v9 = .int .i64 (j : Int) ∧ j ≤ m ∧ 0 ≤ sz ∧ sz ≤ 4194304 ∧ wr = w ∧ Hid (sz = 1 + szP P (ks.take j))) (fun _ v9 _ => m - (intOf v9).toNat)
    case atStart => exact ⟨0, 1, rfl, rfl, Nat.zero_le _, by omega, by omega, rfl, (by simp [szP] : (1 : Int) = 1 + szP P (ks.take 0))⟩
    case round =>
      obtain ⟨j, sz, rfl, rfl, hj, hs0, hs1, rfl, hI⟩ := hrel
      by_cases hjm : j < m
      · obtain ⟨k, g, o, hk, rfl, r0, r1⟩ := HPR.out j hjm
        have htk : ks.take (j + 1) = ks.take j ++ [k] := by rw [List.take_add_one, hk]; rfl
        have hz := HSZ.out k (List.mem_of_getElem? hk)
        have hle := szP_le P ks (fun k hk => (HSZ.out k hk).1) (j + 1)
        have hsu := HSU.out
        rw [htk, szP_app] at hle
        have hIo := hI.out
        obtain ⟨z, hz2⟩ : ∃ z, (P k).size = z := ⟨_, rfl⟩
        rw [hz2] at hz hle r1
        have hnew : sz + z ≤ 4194304 := by omega
        have HN : Hid (sz + z = 1 + szP P (ks.take (j + 1))) := (by rw [htk, szP_app, hz2]; omega : sz + z = 1 + szP P (ks.take (j + 1)))
        have hjI : (j : Int) < (m : Int) := by omega
        obtain ⟨hz0, hz1⟩ := hz
        clear hI htk hle hsu hIo hk hz2
        go_wp2_with fail
        exact ⟨⟨j + 1, sz + z, rfl, by simp, by omega, by omega, by omega, trivial, HN.out⟩, by simp [intOf] <;> omega⟩
      · obtain rfl : j = m := by omega
        have hfin : sz = 1 + szP P ks := by have h := hI.out; rw [List.take_of_length_le (by rw [HM.out]; exact Nat.le_refl _)] at h; exact h
        have HFI := hide1 hfin
        clear hI hfin
        go_upto_region 11 with fail
        obtain ⟨nb, hnb⟩ : ∃ nb, wr.heap.size = nb := ⟨_, rfl⟩
        obtain ⟨wA, hwA⟩ : ∃ wA, wr.alloc (.cells #[.int .i64 0, .int .i64 kind, .int .i64 0, .int .i64 sz, .int .i64 0, .int .i64 0, .int .i64 0, .int .i64 0, .slice none 0 0] 36) = wA := ⟨_, rfl⟩
        have hkA : Kept wr wA := by rw [← hwA]; exact (Kept.refl wr).alloc _ _
        have hXB : wA.heap[nb]? = some (.cells #[.int .i64 0, .int .i64 kind, .int .i64 0, .int .i64 sz, .int .i64 0, .int .i64 0, .int .i64 0, .int .i64 0, .slice none 0 0] 36 (0, 0)) := by rw [← hwA, ← hnb]; exact World.alloc_heap_new wr _
        have x8 : wA.cell? ⟨nb, 8, none⟩ = some (.slice none 0 0) := by simp [World.cell?, hXB]
        have HXB := hide1 hXB
        have HKA := hide1 hkA
        have HNB := hide1 hnb
        rw [hwA, hnb]
        clear hwA hnb hXB hkA
        go_wp2_with (at_builtin; refine wpl_many (E := pnE) rfl _ _ rfl wA.heap.size (.slice none 0 0) [] ks 0 j j rfl HM.out (Nat.zero_add _) rfl (LO.nil _ _) va vc rfl (HSR.out.keep HKA.out) (by show j * 8 ≤ 140737488355328; omega) (by unfold maxLen; omega) (Nat.le_refl _) ?_; intro a6 c6 w6 ho6 hg6 hor6; have HO6 := hide1 ho6; have HK6 := hide1 (Kept.lo (Kept.refl wA) (LO.nil (E := pnE) wA wA.heap.size) hg6); have hb6 := (HK6.out.2.2.2.2 nb (Array.getElem?_eq_some_iff.1 HXB.out).1).trans HXB.out; have y8 : w6.cell? ⟨nb, 8, none⟩ = some (.slice none 0 0) := (by simp [World.cell?, hb6]); have y9 : w6.frozen? ⟨nb, 8, none⟩ = false := (by simp [World.frozen?, hb6]); have HB6 := hide1 hb6; clear ho6 hg6 hor6 hb6)
        go_ret2
        have hnl := (Array.getElem?_eq_some_iff.1 HXB.out).1
        have ho := HO6.out
        rw [List.nil_append] at ho
        have hset : (w6.setCell ⟨nb, 8, none⟩ (.slice a6 j c6)).heap[nb]? = some (.cells #[.int .i64 0, .int .i64 kind, .int .i64 0, .int .i64 sz, .int .i64 0, .int .i64 0, .int .i64 0, .int .i64 0, .slice a6 j c6] 36 (0, 0)) := by
          have hl := (Array.getElem?_eq_some_iff.1 HB6.out).1
          have he := Option.some.inj ((Array.getElem?_eq_getElem hl).symm.trans HB6.out)
          simp [World.setCell, Array.getElem_modify, hl, he]
        have hoth : ∀ k, k ≠ nb → (w6.setCell ⟨nb, 8, none⟩ (.slice a6 j c6)).heap[k]? = w6.heap[k]? := fun k hk => Below.heap_setCell _ _ _ _ hk
        have hkk : Kept wr w6 := gtrans HKA.out HK6.out
        refine ⟨nb, rfl, ⟨⟨by rw [HNB.out]; exact Nat.le_refl _, (Array.getElem?_eq_some_iff.1 hset).1⟩, a6, c6, ?_, ho.cap, fun i k hi => ?_⟩, ⟨hkk.1, hkk.2.1, hkk.2.2.1, Nat.le_trans hkk.size (by simp [World.setCell]), fun k hk => (hoth k (by have := HNB.out; omega)).trans (hkk.2.2.2.2 k hk)⟩⟩
        · rw [hset, HFI.out, HM.out]
        · obtain ⟨g, rfl⟩ := ho.some (by intro e; rw [e] at hi; simp at hi)
          have hgl := (ho.lt' g rfl).1
          have hgu : g < (w6.setCell ⟨nb, 8, none⟩ (.slice (some ⟨g, 0, none⟩) j c6)).heap.size := by have := (ho.lt' g rfl).2; simpa [World.setCell] using this
          have hgw : wr.heap.size ≤ g := Nat.le_trans HKA.out.size hgl
          have h1 := (ho.same (fun d hd => hoth d (by simp only [Value.ownBlock, Option.some.injEq] at hd; subst hd; show g ≠ nb; omega))).cell (i := i) (j := 0) (x := k) (u := .pointer (some ⟨k, 0, none⟩)) hi rfl
          rw [show i * pnE.sz + 0 = 0 + i from by show i * 1 + 0 = 0 + i; omega] at h1
          exact ⟨g, 0, rfl, ⟨hgw, hgu⟩, h1⟩
  · obtain rfl : kind = 2 := g4 hn0
    have eB : (n == (0 : Int)) = false := by simp; exact hn0
    clear g4 g1 g2
    go_enter Try.func15, Try.ntmps15
    go_wp2_with fail
    go_loopw [8, 9] (fun v8 v9 wr => ∃ (j : Nat) (sz : Int), v8 = .int .i64 sz ∧ v9 = .int .i64 (j : Int) ∧ j ≤ m ∧ 0 ≤ sz ∧ sz ≤ 4194304 ∧ wr = w ∧ Hid (sz = 1 + szP P (ks.take j))) (fun _ v9 _ => m - (intOf v9).toNat)
    case atStart => exact ⟨0, 1, rfl, rfl, Nat.zero_le _, by omega, by omega, rfl, (by simp [szP] : (1 : Int) = 1 + szP P (ks.take 0))⟩
    case round =>
      obtain ⟨j, sz, rfl, rfl, hj, hs0, hs1, rfl, hI⟩ := hrel
      by_cases hjm : j < m
      · obtain ⟨k, g, o, hk, rfl, r0, r1⟩ := HPR.out j hjm
        have htk : ks.take (j + 1) = ks.take j ++ [k] := by rw [List.take_add_one, hk]; rfl
        have hz := HSZ.out k (List.mem_of_getElem? hk)
        have hle := szP_le P ks (fun k hk => (HSZ.out k hk).1) (j + 1)
        have hsu := HSU.out
        rw [htk, szP_app] at hle
        have hIo := hI.out
        obtain ⟨z, hz2⟩ : ∃ z, (P k).size = z := ⟨_, rfl⟩
        rw [hz2] at hz hle r1
        have hnew : sz + z ≤ 4194304 := by omega
        have HN : Hid (sz + z = 1 + szP P (ks.take (j + 1))) := (by rw [htk, szP_app, hz2]; omega : sz + z = 1 + szP P (ks.take (j + 1)))
        have hjI : (j : Int) < (m : Int) := by omega
        obtain ⟨hz0, hz1⟩ := hz
        clear hI htk hle hsu hIo hk hz2
        go_wp2_with fail
        exact ⟨⟨j + 1, sz + z, rfl, by simp, by omega, by omega, by omega, trivial, HN.out⟩, by simp [intOf] <;> omega⟩
      · obtain rfl : j = m := by omega
        have hfin : sz = 1 + szP P ks := by have h := hI.out; rw [List.take_of_length_le (by rw [HM.out]; exact Nat.le_refl _)] at h; exact h
        have HFI := hide1 hfin
        clear hI hfin
        go_upto_region 11 with fail
        obtain ⟨nb, hnb⟩ : ∃ nb, wr.heap.size = nb := ⟨_, rfl⟩
        obtain ⟨wA, hwA⟩ : ∃ wA, wr.alloc (.cells #[.int .i64 0, .int .i64 2, .int .i64 n, .int .i64 sz, .int .i64 0, .int .i64 0, .int .i64 0, .int .i64 0, .slice none 0 0] 36) = wA := ⟨_, rfl⟩
        have hkA : Kept wr wA := by rw [← hwA]; exact (Kept.refl wr).alloc _ _
        have hXB : wA.heap[nb]? = some (.cells #[.int .i64 0, .int .i64 2, .int .i64 n, .int .i64 sz, .int .i64 0, .int .i64 0, .int .i64 0, .int .i64 0, .slice none 0 0] 36 (0, 0)) := by rw [← hwA, ← hnb]; exact World.alloc_heap_new wr _
        have x8 : wA.cell? ⟨nb, 8, none⟩ = some (.slice none 0 0) := by simp [World.cell?, hXB]
        have HXB := hide1 hXB
        have HKA := hide1 hkA
        have HNB := hide1 hnb
        rw [hwA, hnb]
        clear hwA hnb hXB hkA
        go_wp2_with (at_builtin; refine wpl_many (E := pnE) rfl _ _ rfl wA.heap.size (.slice none 0 0) [] ks 0 j j rfl HM.out (Nat.zero_add _) rfl (LO.nil _ _) va vc rfl (HSR.out.keep HKA.out) (by show j * 8 ≤ 140737488355328; omega) (by unfold maxLen; omega) (Nat.le_refl _) ?_; intro a6 c6 w6 ho6 hg6 hor6; have HO6 := hide1 ho6; have HK6 := hide1 (Kept.lo (Kept.refl wA) (LO.nil (E := pnE) wA wA.heap.size) hg6); have hb6 := (HK6.out.2.2.2.2 nb (Array.getElem?_eq_some_iff.1 HXB.out).1).trans HXB.out; have y8 : w6.cell? ⟨nb, 8, none⟩ = some (.slice none 0 0) := (by simp [World.cell?, hb6]); have y9 : w6.frozen? ⟨nb, 8, none⟩ = false := (by simp [World.frozen?, hb6]); have HB6 := hide1 hb6; clear ho6 hg6 hor6 hb6)
        go_ret2
        have hnl := (Array.getElem?_eq_some_iff.1 HXB.out).1
        have ho := HO6.out
        rw [List.nil_append] at ho
        have hset : (w6.setCell ⟨nb, 8, none⟩ (.slice a6 j c6)).heap[nb]? = some (.cells #[.int .i64 0, .int .i64 2, .int .i64 n, .int .i64 sz, .int .i64 0, .int .i64 0, .int .i64 0, .int .i64 0, .slice a6 j c6] 36 (0, 0)) := by
          have hl := (Array.getElem?_eq_some_iff.1 HB6.out).1
          have he := Option.some.inj ((Array.getElem?_eq_getElem hl).symm.trans HB6.out)
          simp [World.setCell, Array.getElem_modify, hl, he]
        have hoth : ∀ k, k ≠ nb → (w6.setCell ⟨nb, 8, none⟩ (.slice a6 j c6)).heap[k]? = w6.heap[k]? := fun k hk => Below.heap_setCell _ _ _ _ hk
        have hkk : Kept wr w6 := gtrans HKA.out HK6.out
        refine ⟨nb, rfl, ⟨⟨by rw [HNB.out]; exact Nat.le_refl _, (Array.getElem?_eq_some_iff.1 hset).1⟩, a6, c6, ?_, ho.cap, fun i k hi => ?_⟩, ⟨hkk.1, hkk.2.1, hkk.2.2.1, Nat.le_trans hkk.size (by simp [World.setCell]), fun k hk => (hoth k (by have := HNB.out; omega)).trans (hkk.2.2.2.2 k hk)⟩⟩
        · rw [hset, HFI.out, HM.out]
        · obtain ⟨g, rfl⟩ := ho.some (by intro e; rw [e] at hi; simp at hi)
          have hgl := (ho.lt' g rfl).1
          have hgu : g < (w6.setCell ⟨nb, 8, none⟩ (.slice (some ⟨g, 0, none⟩) j c6)).heap.size := by have := (ho.lt' g rfl).2; simpa [World.setCell] using this
          have hgw : wr.heap.size ≤ g := Nat.le_trans HKA.out.size hgl
          have h1 := (ho.same (fun d hd => hoth d (by simp only [Value.ownBlock, Option.some.injEq] at hd; subst hd; show g ≠ nb; omega))).cell (i := i) (j := 0) (x := k) (u := .pointer (some ⟨k, 0, none⟩)) hi rfl
          rw [show i * pnE.sz + 0 = 0 + i from by show i * 1 + 0 = 0 + i; omega] at h1
          exact ⟨g, 0, rfl, ⟨hgw, hgu⟩, h1⟩

end Tr
end Ex
end Go.Proofs.Yteckbpmliahhhaa
namespace Go.Proofs.Yteckbpmliahhhaa
open Go.RowKit
attribute [local go_sem] Oper.semAt_some
set_option linter.unusedVariables false
namespace Ex
namespace Tr

/-- The document's node of what steps make. -/
def pnI (Q : List Nat) (x : ItM) : Pn := ⟨0, x.kd, x.nn, (x.sz : Int), x.l0, x.l1, x.l2, x.l3, x.js.map (atL Q)⟩
/-- The document's nodes: those of the grove, and those that were made; V: these nodes' blocks. -/
structure DcS (Q : List Nat) (X : Nat → Pn) (n0 : Nat) (g : Nat → Nat) (its : List ItM) (newQ : List Nat) (Y : Nat → Pn) (V : Nat → Prop) (w0 wr : World) : Prop where
  kp : Kept w0 wr
  len : newQ.length = its.length ∧ Q.length = n0
  old : ∀ d ∈ Q, Y d = X d
  oq : ∀ d ∈ Q, PnAt w0 d (X d)
  nw : ∀ (t : Nat) (x : ItM), its[t]? = some x → PnV V wr (atL (Q ++ newQ) (n0 + t)) (Y (atL (Q ++ newQ) (n0 + t))) ∧ Y (atL (Q ++ newQ) (n0 + t)) = pnI (Q ++ newQ) x
  vs : ∀ k, V k → w0.heap.size ≤ k ∧ k < wr.heap.size
  sz : ∀ r, r < n0 + its.length → (Y (atL (Q ++ newQ) r)).size = (pszI n0 g its r : Int)
theorem pn_lt {w : World} {b : Nat} {p : Pn} (h : PnAt w b p) : b < w.heap.size := by
  obtain ⟨a, c, h1, _⟩ := h
  exact (Array.getElem?_eq_some_iff.1 h1).1
section
variable {Q newQ : List Nat} {X Y : Nat → Pn} {n0 : Nat} {g : Nat → Nat} {its : List ItM} {V : Nat → Prop} {w0 wr w' : World}
theorem DcS.kx (h : DcS Q X n0 g its newQ Y V w0 wr) (hk : Kept w0 w') (hx : KX V wr w') : DcS Q X n0 g its newQ Y V w0 w' := ⟨hk, h.len, h.old, h.oq, fun t x hx' => ⟨(h.nw t x hx').1.kx hx, (h.nw t x hx').2⟩, fun k hk' => ⟨(h.vs k hk').1, Nat.lt_of_lt_of_le (h.vs k hk').2 hx.1⟩, h.sz⟩
theorem DcS.keep (h : DcS Q X n0 g its newQ Y V w0 wr) (hk : Kept wr w') : DcS Q X n0 g its newQ Y V w0 w' := h.kx (gtrans h.kp hk) ⟨hk.size, fun k hk' => hk.2.2.2.2 k (h.vs k hk').2⟩
theorem DcS.grown {v : Value} {l : List Nat} (h : DcS Q X n0 g its newQ Y V w0 wr) (hl : LO pnE wr w0.heap.size v l) (hn : ∀ d, v.ownBlock = some d → ¬ V d) (hg : wr.grownBy w' v.ownBlock) : DcS Q X n0 g its newQ Y V w0 w' := h.kx (Kept.lo h.kp hl hg) ⟨hg.size, fun k hk => hg.block k (h.vs k hk).2 (fun e => hn k e.symm hk)⟩
theorem DcS.at_ (h : DcS Q X n0 g its newQ Y V w0 wr) {r : Nat} (hr : r < n0 + its.length) : PnAt wr (atL (Q ++ newQ) r) (Y (atL (Q ++ newQ) r)) := by
  obtain ⟨l1, l2⟩ := h.len
  by_cases h0 : r < n0
  · have e : atL (Q ++ newQ) r = atL Q r := by
      unfold atL
      rw [List.getElem?_append_left (by omega)]
    rw [e, h.old _ (atL_mem (by omega))]
    exact (h.oq _ (atL_mem (by omega))).keep h.kp
  · obtain ⟨t, rfl⟩ : ∃ t, r = n0 + t := ⟨r - n0, by omega⟩
    obtain ⟨x, hx⟩ : ∃ x, its[t]? = some x := ⟨_, List.getElem?_eq_getElem (by omega)⟩
    exact (h.nw t x hx).1.at
theorem DcS.start {w : World} (hq : ∀ d ∈ Q, PnAt w d (X d)) (hn : Q.length = n0) (hg : ∀ r, r < n0 → (X (atL Q r)).size = (g r : Int)) : DcS Q X n0 g [] [] X (fun _ => False) w w := by
  refine ⟨Kept.refl w, ⟨rfl, hn⟩, fun _ _ => rfl, hq, fun t x hx => by simp at hx, fun k hk => hk.elim, fun r hr => ?_⟩
  simp only [List.length_nil, Nat.add_zero] at hr
  rw [List.append_nil]
  unfold pszI
  rw [if_pos hr, hg r hr]
theorem DcS.add {j d : Nat} {row : List Nat} {y : ItM} {Vb : Nat → Prop} (h : DcS Q X n0 g its newQ Y V w0 wr) (hK : ApK n0 g its row j) (hk : Kept wr w') (hd : wr.heap.size ≤ d) (hp : PnV Vb w' d (pnI (Q ++ newQ) y)) (hVb : ∀ k, Vb k → wr.heap.size ≤ k ∧ k < w'.heap.size) (hjs : ∀ r ∈ y.js, r < n0 + its.length) : DcS Q X n0 g (its ++ [y]) (newQ ++ [d]) (fun k => if k = d then pnI (Q ++ newQ) y else Y k) (fun k => V k ∨ Vb k) w0 w' := by
  have h' := h.keep hk
  obtain ⟨l1, l2⟩ := h.len
  have hlt : ∀ r, r < n0 + its.length → atL (Q ++ newQ) r ≠ d := fun r hr e => by have := pn_lt (h.at_ hr); omega
  have hat : ∀ r, r < n0 + its.length → atL (Q ++ (newQ ++ [d])) r = atL (Q ++ newQ) r := fun r hr => atL_old (by omega)
  have hnb : atL (Q ++ (newQ ++ [d])) (n0 + its.length) = d := by rw [← l1, ← l2]; exact atL_new Q newQ d
  have hpi : ∀ x : ItM, (∀ r ∈ x.js, r < n0 + its.length) → pnI (Q ++ (newQ ++ [d])) x = pnI (Q ++ newQ) x := fun x hx => by
    unfold pnI
    rw [List.map_congr_left (fun r hr => hat r (hx r hr))]
  have hw0 := h.kp.size
  have hdQ : ∀ c ∈ Q, c ≠ d := fun c hc e => by have := pn_lt (h.oq c hc); omega
  refine ⟨h'.kp, ⟨by simp [l1], l2⟩, fun c hc => ?_, h'.oq, fun t x hx => ?_, fun k hk' => ?_, fun r hr => ?_⟩
  · try dsimp only
    rw [if_neg (hdQ c hc)]
    exact h.old c hc
  · by_cases ht : t < its.length
    · rw [List.getElem?_append_left ht] at hx
      obtain ⟨e1, e2⟩ := h'.nw t x hx
      have hx2 := (hK.it t x hx).1
      rw [hat (n0 + t) (by omega), hpi x (fun r hr => by have := hx2 r hr; omega)]
      try dsimp only
      rw [if_neg (hlt (n0 + t) (by omega))]
      exact ⟨e1.more (fun k hk => Or.inl hk), e2⟩
    · rw [List.getElem?_append_right (by omega)] at hx
      have h9 : t - its.length < 1 := by have := (List.getElem?_eq_some_iff.1 hx).1; simpa using this
      obtain rfl : t = its.length := by omega
      rw [Nat.sub_self] at hx
      have hxy : x = y := by simpa using hx.symm
      rw [hxy, hnb, hpi y hjs]
      try dsimp only
      rw [if_pos rfl]
      exact ⟨hp.more (fun k hk => Or.inr hk), rfl⟩
  · rcases hk' with hk' | hk'
    · exact h'.vs k hk'
    · have := hVb k hk'
      omega
  · rw [List.length_append, List.length_singleton] at hr
    by_cases hr2 : r < n0 + its.length
    · rw [hat r hr2]
      try dsimp only
      rw [if_neg (hlt r hr2), h.sz r hr2]
      unfold pszI
      split
      · rfl
      · rw [List.getElem?_append_left (by omega)]
    · obtain rfl : r = n0 + its.length := by omega
      rw [hnb]
      try dsimp only
      rw [if_pos rfl, psz_new]
      rfl
end
/-- How many rows a place has. -/
theorem psz_in {n0 j : Nat} {g : Nat → Nat} {its : List ItM} {row : List Nat} {Z : Nat → Int} (h : ApK n0 g its row j) (hg : ∀ r, r < n0 → Z r = (g r : Int) ∧ g r ≤ 1500 ∧ 1 ≤ g r) {r : Nat} (hr : r < n0 + its.length) : 0 < (pszI n0 g its r : Int) ∧ (pszI n0 g its r : Int) ≤ 4194304 := by
  unfold pszI
  split
  · rename_i h0
    have := hg r h0
    omega
  · obtain ⟨x, hx⟩ : ∃ x, its[r - n0]? = some x := ⟨_, List.getElem?_eq_getElem (by omega)⟩
    have := h.it _ x hx
    rw [hx]
    show 0 < (x.sz : Int) ∧ (x.sz : Int) ≤ 4194304
    omega
theorem DcS.sizes {Q newQ : List Nat} {X Y : Nat → Pn} {n0 : Nat} {g : Nat → Nat} {its : List ItM} {V : Nat → Prop} {w0 wr : World} (h : DcS Q X n0 g its newQ Y V w0 wr) : ∀ (ks : List Nat), (∀ r ∈ ks, r < n0 + its.length) → szP Y (ks.map (atL (Q ++ newQ))) = (sumZ n0 g its ks : Int)
  | [], _ => rfl
  | k :: ks, hks => by
    have ih := h.sizes ks (fun r hr => hks r (List.mem_cons_of_mem _ hr))
    have h1 := h.sz k (hks k List.mem_cons_self)
    unfold szP sumZ at ih ⊢
    simp only [List.map_cons, List.sum_cons]
    rw [ih, h1]
    omega
def DcI (Q : List Nat) (X : Nat → Pn) (n0 : Nat) (g : Nat → Nat) (kp : Int → Bool) (l : List OpM) (R : Int × List ItM × List Nat) (w : World) (j : Nat) (rv : Value) (wr : World) : Prop :=
  ∃ newQ Y V its row, DcS Q X n0 g its newQ Y V w wr ∧ LO pnE wr w.heap.size rv (row.map (atL (Q ++ newQ))) ∧ (∀ d, rv.ownBlock = some d → ¬ V d) ∧ ApK n0 g its row j ∧ apF n0 g kp (l.drop j) its row = R
def DcOut (Q : List Nat) (X : Nat → Pn) (n0 : Nat) (g : Nat → Nat) (R : Int × List ItM × List Nat) (w : World) (e : Ending) (w' : World) : Prop :=
  Kept w w' ∧ ((R.1 ≠ 0 ∧ e = .returned (.tuple #[.pointer none, .int .i64 R.1])) ∨ (R.1 = 0 ∧ R.2.2.length ≠ 1 ∧ e = .returned (.tuple #[.pointer none, .int .i64 150])) ∨
   (R.1 = 0 ∧ ∃ r newQ Y V, R.2.2 = [r] ∧ r < n0 + R.2.1.length ∧ e = .returned (.tuple #[.pointer (some ⟨atL (Q ++ newQ) r, 0, none⟩), .int .i64 0]) ∧ DcS Q X n0 g R.2.1 newQ Y V w w'))
theorem src_tail {w : World} {base g L c : Nat} {r0 ks : List Nat} (h : LO pnE w base (.slice (some ⟨g, 0, none⟩) L c) (r0 ++ ks)) : Src pnE w (some ⟨g, r0.length, none⟩) ks := by
  refine Or.inr ⟨g, r0.length, rfl, fun j u hu => ?_⟩
  have e : ∀ l : List Nat, ∀ (i : Nat) (u : Value), (flatE pnE l)[i]? = some u → ∃ k, l[i]? = some k ∧ u = .pointer (some ⟨k, 0, none⟩) := fun l => by
    induction l with
    | nil => intro i u h; simp [flatE] at h
    | cons x l ih =>
      intro i u h
      cases i with
      | zero => exact ⟨x, rfl, (Option.some.inj h).symm⟩
      | succ i => exact ih i u h
  obtain ⟨k, hk, rfl⟩ := e ks j u hu
  have h1 := h.cell (i := r0.length + j) (j := 0) (x := k) (u := .pointer (some ⟨k, 0, none⟩)) (by rw [List.getElem?_append_right (by omega)]; simpa using hk) rfl
  rw [show (r0.length + j) * pnE.sz + 0 = r0.length + j from by show (r0.length + j) * 1 + 0 = _; omega] at h1
  exact h1

end Tr
end Ex
end Go.Proofs.Yteckbpmliahhhaa
