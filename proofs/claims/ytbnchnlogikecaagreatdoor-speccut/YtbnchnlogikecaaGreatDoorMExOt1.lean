import Derived.Test.YtbnchnlogikecaaGreatDoorMExApp
import Derived.Test.YtbnchnlogikecaaGreatDoorMExRh3
import Derived.Test.YtbnchnlogikecaaGreatDoorMExO1
namespace Go.Proofs.YtbnchnlogikecaaGreatDoor
open Go.RowKit
attribute [local go_sem] Oper.semAt_some
namespace Ex

/-- The bytes that are named, as they lie in memory. -/
def namL (N : Nat → Bool) : List Value := (List.range 256).map fun i => Value.bool (N i)
def namV (N : Nat → Bool) : Array Value := (namL N).toArray
theorem namV_size (N : Nat → Bool) : (namV N).size = 256 := by simp [namV, namL]
theorem namV_at (N : Nat → Bool) {i : Nat} (h : i < 256) : (namV N)[i]? = some (.bool (N i)) := by simp [namV, namL, h]
def NamAt (w : World) (b : Nat) (N : Nat → Bool) : Prop := w.heap[b]? = some (.cells (namV N) 196 (0, 0))
theorem NamAt.cell {w : World} {b i : Nat} {N : Nat → Bool} (h : NamAt w b N) (hi : i < 256) : w.cell? ⟨b, i, none⟩ = some (.bool (N i)) := by
  unfold NamAt at h
  simp only [World.cell?, h]
  exact namV_at N hi
theorem NamAt.free {w : World} {b : Nat} {N : Nat → Bool} (i : Nat) (h : NamAt w b N) : w.frozen? ⟨b, i, none⟩ = false := by
  unfold NamAt at h
  simp [World.frozen?, h]
theorem NamAt.lt {w : World} {b : Nat} {N : Nat → Bool} (h : NamAt w b N) : b < w.heap.size := (Array.getElem?_eq_some_iff.1 h).1
theorem NamAt.keep {w w' : World} {b : Nat} {N : Nat → Bool} (h : NamAt w b N) (hk : Kept w w') : NamAt w' b N := (hk.2.2.2.2 b h.lt).trans h
theorem NamAt.but {w w' : World} {b c : Nat} {N : Nat → Bool} (h : NamAt w b N) (hk : KeptBut c w w') (hc : b ≠ c) : NamAt w' b N := (hk.2.2.2.2 b h.lt hc).trans h
def setN (N : Nat → Bool) (k : Nat) : Nat → Bool := fun i => N i || decide (i = k)
theorem namV_set (N : Nat → Bool) {k : Nat} (hk : k < 256) : (namV N).setIfInBounds k (.bool true) = namV (setN N k) := by
  apply Array.ext_getElem?
  intro i
  rw [Array.getElem?_setIfInBounds, namV_size]
  by_cases hi : i < 256
  · rw [namV_at _ hi, namV_at _ hi]
    unfold setN
    by_cases h : k = i
    · subst h; simp [hi]
    · simp [h, show ¬ i = k from fun e => h e.symm]
  · have h1 : ∀ B, (namV B)[i]? = none := fun B => by rw [Array.getElem?_eq_none_iff, namV_size]; omega
    rw [h1, h1, if_neg (by omega)]
theorem NamAt.set {w : World} {b k : Nat} {N : Nat → Bool} (h : NamAt w b N) (hk : k < 256) : NamAt (w.setCell ⟨b, k, none⟩ (.bool true)) b (setN N k) := by
  unfold NamAt at h ⊢
  have hl : b < w.heap.size := (Array.getElem?_eq_some_iff.1 h).1
  have he : w.heap[b] = Obj.cells (namV N) 196 (0, 0) := by rw [Array.getElem?_eq_getElem hl] at h; exact Option.some.inj h
  rw [← namV_set N hk]
  simp [World.setCell, Array.getElem_modify, hl, he]
/-- The bytes from f on, so many, named besides. -/
def markN (N : Nat → Bool) (f : Nat) : Nat → Nat → Bool
  | 0 => N
  | m + 1 => setN (markN N f m) (f + m)
def markP (N : Nat → Bool) (p : Int × Int) : Nat → Bool := markN N p.1.toNat (p.2 + 1 - p.1).toNat
def markL (N : Nat → Bool) (l : List (Int × Int)) : Nat → Bool := l.foldl markP N
theorem markL_snoc (N : Nat → Bool) (l : List (Int × Int)) (p : Int × Int) : markL N (l ++ [p]) = markP (markL N l) p := by
  unfold markL
  rw [List.foldl_append]
  rfl
def rangesP (l : List (Int × Int)) : List Pat := l.map fun p => rangeP p.1 p.2

theorem kept_new {w W : World} {g o : Nat} {v : Value} (h : Kept w W) (hg : w.heap.size ≤ g) : Kept w (W.setCell ⟨g, o, none⟩ v) :=
  ⟨h.1, h.2.1, h.2.2.1, by simpa [World.setCell] using h.2.2.2.1, fun k hk => (Below.heap_setCell _ _ _ _ (show k ≠ g by omega)).trans (h.2.2.2.2 k hk)⟩
theorem nam_zero (w : World) : NamAt (w.alloc (.cells Tryz.zeroCells196 196)) w.heap.size (fun _ => false) := by
  have e : Tryz.zeroCells196 = namV (fun _ => false) := by kernel_rfl
  rw [e]
  exact heap_alloc_new w _
/-- What is known of the list that came in. -/
theorem PatsOwn.cells_at {base n cap i : Nat} {w : World} {S : Nat → Prop} {a : Option Addr} {l : List Pat} {q : Pat} (h : PatsOwn w base S (.slice a n cap) l) (hq : l[i]? = some q) : ∃ g u, a = some ⟨g, 0, none⟩ ∧ g < w.heap.size ∧ n ≤ cap ∧ w.cell? ⟨g, i * 6, none⟩ = some (.int .i64 (kind q.2)) ∧ w.cell? ⟨g, i * 6 + 1, none⟩ = some (.int .i64 (from_ q.2)) ∧ w.cell? ⟨g, i * 6 + 2, none⟩ = some (.int .i64 (to_ q.2)) ∧ w.cell? ⟨g, i * 6 + 3, none⟩ = some (.int .i64 (min_ q.2)) ∧ w.cell? ⟨g, i * 6 + 4, none⟩ = some (.int .i64 (max_ q.2)) ∧ w.cell? ⟨g, i * 6 + 5, none⟩ = some u ∧ KidsAt (fun d => S d ∧ (Value.slice a n cap).ownBlock ≠ some d) w q.1 (Ex.kids q.2) u := by
  obtain ⟨xs, h1, h2⟩ := h
  obtain ⟨u, a0, a1, a2, a3, a4, a5, hk⟩ := h2.at hq
  rcases h1.2 with ⟨e, h0⟩ | ⟨g, cap', cur, e, hb, hg, hc, _, _, hx⟩
  · have : l = [] := List.length_eq_zero_iff.1 h0
    subst this
    simp at hq
  · simp only [Value.slice.injEq] at e
    obtain ⟨rfl, rfl, rfl⟩ := e
    have hh := row_cells hg hx
    simp only [Nat.zero_add] at hh
    exact ⟨g, u, rfl, (Array.getElem?_eq_some_iff.1 hg).1, hc, hh _ _ a0, hh _ _ a1, hh _ _ a2, hh _ _ a3, hh _ _ a4, hh _ _ a5, hk⟩
theorem rangesP_at {l : List (Int × Int)} {j : Nat} {p : Int × Int} (h : l[j]? = some p) : (rangesP l)[j]? = some (rangeP p.1 p.2) := by
  unfold rangesP
  rw [List.getElem?_map, h]
  rfl
theorem cell_set_other {w : World} {b d o o' : Nat} {v u : Value} (hc : w.cell? ⟨d, o, none⟩ = some u) (hd : d ≠ b) : (w.setCell ⟨b, o', none⟩ v).cell? ⟨d, o, none⟩ = some u := (World.cell?_of_block (w := w) (a := ⟨d, o, none⟩) (Below.heap_setCell _ _ _ _ hd)).trans hc
def MarkR (l : List (Int × Int)) (w : World) (j : Nat) (wr : World) : Prop :=
  NamAt wr w.heap.size (markL (fun _ => false) (l.take j)) ∧ Kept w wr

/-- The last range ends at c. -/
def setLast (l : List (Int × Int)) (c : Int) : List (Int × Int) := l.modify (l.length - 1) fun p => (p.1, c)
/-- The ranges of the bytes below j that N does not name. -/
def restTo (N : Nat → Bool) : Nat → List (Int × Int)
  | 0 => []
  | j + 1 => if N j then restTo N j else if 0 < j ∧ N (j - 1) = false then setLast (restTo N j) j else restTo N j ++ [((j : Int), (j : Int))]
def othersL (l : List (Int × Int)) : List (Int × Int) := restTo (markL (fun _ => false) l) 256
theorem restTo_len (N : Nat → Bool) : ∀ j, (restTo N j).length ≤ j
  | 0 => Nat.le_refl _
  | j + 1 => by
    have := restTo_len N j
    rw [restTo]
    split
    · omega
    · split
      · unfold setLast; rw [List.length_modify]; omega
      · rw [List.length_append]; simp; omega
theorem restTo_pos (N : Nat → Bool) : ∀ j, N j = false → 0 < (restTo N (j + 1)).length
  | 0, h => by simp [restTo, h]
  | j + 1, h => by
    rw [restTo, h]
    split
    · rename_i h'; simp at h'
    · split
      · rename_i h2
        unfold setLast
        rw [List.length_modify]
        exact restTo_pos N j (by simpa using h2.2)
      · simp
theorem FlatAt.setTo {S : Nat → Prop} {w : World} {c : Int} : ∀ {l : List (Int × Int)} {xs : List Value} {k : Nat}, FlatAt S w (rangesP l) xs → k < l.length → FlatAt S w (rangesP (l.modify k fun p => (p.1, c))) (xs.set (k * 6 + 2) (.int .i64 c))
  | [], _, k, _, hk => by simp at hk
  | q :: l, _, 0, ⟨v', ys, h1, h2, h3⟩, _ => by
    subst h1
    exact ⟨v', ys, rfl, h2, h3⟩
  | q :: l, _, k + 1, ⟨v', ys, h1, h2, h3⟩, hk => by
    subst h1
    refine ⟨v', ys.set (k * 6 + 2) (.int .i64 c), ?_, h2, FlatAt.setTo h3 (by simpa using hk)⟩
    rw [show (k + 1) * 6 + 2 = k * 6 + 2 + 6 by omega]
    rfl
theorem kept_on {a b c : World} (h : Kept a b) (k : Kept b c) : Kept a c := ⟨k.1.trans h.1, k.2.1.trans h.2.1, k.2.2.1.trans h.2.2.1, Nat.le_trans h.2.2.2.1 k.2.2.2.1, fun d hd => (k.2.2.2.2 d (Nat.lt_of_lt_of_le hd h.2.2.2.1)).trans (h.2.2.2.2 d hd)⟩
theorem keptP_grown {base : Nat} {w0 w w' : World} {S : Nat → Prop} {v : Value} {l : List Pat} (h : Kept w0 w) (ho : PatsOwn w base S v l) (hb : w0.heap.size ≤ base) (hg : w.grownBy w' v.ownBlock) : Kept w0 w' :=
  ⟨hg.os.trans h.1, hg.tape.trans h.2.1, hg.output.trans h.2.2.1, Nat.le_trans h.2.2.2.1 hg.size, fun k hk => (hg.block k (Nat.lt_of_lt_of_le hk h.2.2.2.1) (fun e => by have := (ho.lt k e.symm).1; omega)).trans (h.2.2.2.2 k hk)⟩
theorem rangesP_snoc (l : List (Int × Int)) (p : Int × Int) : rangesP (l ++ [p]) = rangesP l ++ [rangeP p.1 p.2] := by simp [rangesP]
theorem PatsOwn.free_at {base n cap g : Nat} {w : World} {S : Nat → Prop} {l : List Pat} (h : PatsOwn w base S (.slice (some ⟨g, 0, none⟩) n cap) l) (o : Nat) : w.frozen? ⟨g, o, none⟩ = false := by
  obtain ⟨xs, h1, _⟩ := h
  rcases h1.2 with ⟨e, _⟩ | ⟨g', cap', cur, e, hb, hg, _⟩
  · simp at e
  · simp only [Value.slice.injEq, Option.some.injEq, Addr.mk.injEq] at e
    obtain ⟨⟨rfl, _⟩, _⟩ := e
    simp [World.frozen?, hg]
theorem PatsOwn.setTo {base n cap g k : Nat} {w : World} {S : Nat → Prop} {l : List (Int × Int)} {c : Int} (h : PatsOwn w base S (.slice (some ⟨g, 0, none⟩) n cap) (rangesP l)) (hk : k < l.length) :
    PatsOwn (w.setCell ⟨g, k * 6 + 2, none⟩ (.int .i64 c)) base S (.slice (some ⟨g, 0, none⟩) n cap) (rangesP (l.modify k fun p => (p.1, c))) := by
  obtain ⟨xs, h1, h2⟩ := h
  have hlen := h2.len
  refine ⟨xs.set (k * 6 + 2) (.int .i64 c), ?_, (h2.setTo hk).mono (fun d o v hd hc => cell_set_other hc (fun e => hd.2 (by rw [e]; rfl))) (fun _ h => h)⟩
  have el : (rangesP (l.modify k fun p => (p.1, c))).length = (rangesP l).length := by simp [rangesP]
  rw [el]
  refine ⟨by rw [List.length_set]; exact h1.1, ?_⟩
  · rcases h1.2 with ⟨e, _⟩ | ⟨g', cap', cur, e, hb, hg, hc, hm, hs, hx⟩
    · simp at e
    · simp only [Value.slice.injEq, Option.some.injEq, Addr.mk.injEq] at e
      obtain ⟨⟨rfl, _⟩, rfl, rfl⟩ := e
      refine .inr ⟨g, cap, cur.setIfInBounds (k * 6 + 2) (.int .i64 c), rfl, hb, ?_, hc, hm, ?_, ?_⟩
      · have hl : g < w.heap.size := (Array.getElem?_eq_some_iff.1 hg).1
        have he : w.heap[g] = Obj.cells cur 70 (0, 0) := by rw [Array.getElem?_eq_getElem hl] at hg; exact Option.some.inj hg
        simp [World.setCell, Array.getElem_modify, hl, he]
      · rw [Array.size_setIfInBounds]; exact hs
      · rw [Array.toList_setIfInBounds, List.take_set, hx]

set_option linter.unusedSimpArgs false in
set_option maxRecDepth 100000 in
set_option maxHeartbeats 4000000 in
theorem others_is (S : Nat → Prop) (l : List (Int × Int)) (v : Value) (base : Nat) (w : World) (h : PatsOwn w base S v (rangesP l)) (hl : l.length ≤ 5000) (hB : ∀ p ∈ l, 0 ≤ p.1 ∧ p.1 ≤ 255 ∧ 0 ≤ p.2 ∧ p.2 ≤ 255) :
    Calls Tryz.prog 149 #[v] w fun r w' => (∃ v', r = .returned v' ∧ PatsOwn w' (w.heap.size + 1) (fun d => w.heap.size < d) v' (rangesP (othersL l))) ∧ Kept w w' := by
  have HO := hide1 h
  have HB := hide1 hB
  obtain ⟨av, cv, rfl⟩ := h.form
  obtain ⟨n, hn⟩ : ∃ n, (rangesP l).length = n := ⟨_, rfl⟩
  have hnl : n = l.length := by rw [← hn]; simp [rangesP]
  rw [hn] at HO ⊢
  have gn : (n : Int) ≤ 5000 := by omega
  have HNL := hide1 hnl
  obtain ⟨N, hN⟩ : ∃ N, markL (fun _ => false) l = N := ⟨_, rfl⟩
  rw [show othersL l = restTo N 256 by rw [← hN]; rfl]
  have HNN := hide1 hN
  clear h hB hn hnl hl hN
  go_enter Tryz.func149, Tryz.ntmps149
  go_wp2_with (go_quiet (fail))
  go_loopw [11] (fun vi wr => ∃ j : Nat, vi = .int .i64 (j : Int) ∧ j ≤ n ∧ Hid (MarkR l w j wr)) (fun vi _ => n - (intOf vi).toNat)
  case atStart => exact ⟨0, rfl, Nat.zero_le _, nam_zero w, (Kept.refl w).alloc _ _⟩
  case round =>
    obtain ⟨j, rfl, hj, HM⟩ := hrel
    by_cases hlt : (j : Int) < (n : Int)
    · obtain ⟨q, hq⟩ : ∃ q, l[j]? = some q := ⟨_, List.getElem?_eq_getElem (by have := HNL.out; omega)⟩
      obtain ⟨g, u, e1, hg, hnc, g0, g1, g2, g3, g4, g5, gu⟩ := (HO.out.keep HM.out.2).cells_at (rangesP_at hq)
      obtain ⟨ua, uc, rfl⟩ := gu.form
      subst e1
      have HQ := hide1 hq
      have hbq := HB.out q (List.mem_of_getElem? hq)
      change wr.cell? _ = some (.int .i64 1) at g0
      change wr.cell? _ = some (.int .i64 q.1) at g1
      change wr.cell? _ = some (.int .i64 q.2) at g2
      change wr.cell? _ = some (.int .i64 0) at g3
      change wr.cell? _ = some (.int .i64 0) at g4
      obtain ⟨x, y⟩ := q
      dsimp only at g1 g2 hbq
      obtain ⟨hx0, hx1, hy0, hy1⟩ := hbq
      have hcap : (n : Int) ≤ (cv : Int) := by omega
      clear gu hq
      have HK1 : Hid (Kept w (wr.alloc (.cells #[.int .i64 1, .int .i64 x, .int .i64 y, .int .i64 0, .int .i64 0, .slice ua (kids (rangeP x y).2).length uc] 70))) := HM.out.2.alloc _ _
      have HN1 : Hid (NamAt (wr.alloc (.cells #[.int .i64 1, .int .i64 x, .int .i64 y, .int .i64 0, .int .i64 0, .slice ua (kids (rangeP x y).2).length uc] 70)) w.heap.size (markL (fun _ => false) (l.take j))) := HM.out.1.keep ((Kept.refl _).alloc _ _)
      have HY1 := hide1 (box_at wr (.int .i64 1) (.int .i64 x) (.int .i64 y) (.int .i64 0) (.int .i64 0) (.slice ua (kids (rangeP x y).2).length uc) 70).2.2.1
      obtain ⟨N0, hN0⟩ : ∃ N0, markL (fun _ => false) (l.take j) = N0 := ⟨_, rfl⟩
      rw [hN0] at HN1
      have HN0 := hide1 hN0
      have hmn := HM.out.1.lt
      have HNE : Hid (wr.heap.size ≠ w.heap.size) := by show _ ≠ _; omega
      clear hN0
      go_wp2_with (go_quiet (fail))
      go_loopw [6] (fun vc wi => ∃ m : Nat, vc = .int .i64 (x + (m : Int)) ∧ m ≤ (y + 1 - x).toNat ∧ Hid (NamAt wi w.heap.size (markN N0 x.toNat m)) ∧ Hid (wi.cell? ⟨wr.heap.size, 2, none⟩ = some (.int .i64 y)) ∧ Hid (Kept w wi)) (fun vc _ => (256 - intOf vc).toNat)
      case atStart => exact ⟨0, by simp, Nat.zero_le _, HN1.out, HY1.out, HK1.out⟩
      case round =>
        obtain ⟨m, rfl, hm, HN, HY, HK⟩ := hrel
        have gy := HY.out
        obtain ⟨c, hc⟩ : ∃ c, x + (m : Int) = c := ⟨_, rfl⟩
        rw [hc]
        have HC := hide1 hc
        by_cases hcy : c ≤ y
        · have hc0 : 0 ≤ c := by omega
          have hc1 : c < 256 := by omega
          have gn := HN.out.cell (i := c.toNat) (by omega)
          have gf := HN.out.free c.toNat
          clear hc
          go_wp2_with (go_quiet (fail))
          go_roundw
          case rel =>
            have hc := HC.out
            refine ⟨m + 1, by rw [show c + 1 = x + ((m + 1 : Nat) : Int) by omega], by omega, ?_, cell_set_other HY.out HNE.out, kept_new HK.out (Nat.le_refl _)⟩
            have e : c.toNat = x.toNat + m := by omega
            show NamAt _ _ (setN (markN N0 x.toNat m) (x.toNat + m))
            rw [← e]
            exact HN.out.set (by omega)
          case measure => simp [intOf]; omega
        · clear hc
          go_wp2_with (go_quiet (fail))
          go_roundw
          case rel =>
            have hc := HC.out
            refine ⟨j + 1, by go_num, by omega, ?_, HK.out⟩
            obtain ⟨hjl, hq⟩ := List.getElem?_eq_some_iff.1 HQ.out
            rw [List.take_succ_eq_append_getElem hjl, markL_snoc, hq, HN0.out]
            have e : m = (y + 1 - x).toNat := by omega
            subst e
            exact HN.out
          case measure => simp [intOf]; omega
    · have HN2 : Hid (NamAt wr w.heap.size (markL (fun _ => false) l)) := by
        have h := HM.out.1
        rw [List.take_of_length_le (by have := HNL.out; omega)] at h
        exact h
      have HK2 := hide1 HM.out.2
      clear HM
      rw [HNN.out] at HN2
      go_wp2_with (go_quiet (fail))
      go_loopw [7, 26] (fun v vi wi => ∃ j : Nat, vi = .int .i64 (j : Int) ∧ j ≤ 256 ∧ Hid (PatsOwn wi (w.heap.size + 1) (fun d => w.heap.size < d) v (rangesP (restTo N j))) ∧ Hid (NamAt wi w.heap.size N) ∧ Hid (Kept w wi)) (fun _ vi _ => 256 - (intOf vi).toNat)
      case atStart => exact ⟨0, rfl, by omega, PatsOwn.nil _ _ _, HN2.out, HK2.out⟩
      case round =>
        obtain ⟨j, rfl, hj, HP, HN, HK⟩ := hrel
        obtain ⟨ar, cr, rfl⟩ := HP.out.form
        have hmn := HN.out.lt
        obtain ⟨k, hk⟩ : ∃ k, (rangesP (restTo N j)).length = k := ⟨_, rfl⟩
        have hkj : k ≤ j := by rw [← hk]; simpa [rangesP] using restTo_len N j
        rw [hk] at HP ⊢
        have HKL := hide1 hk
        clear hk
        by_cases hjl : j < 256
        · have hjl2 : (j : Int) < 256 := by omega
          have gn := HN.out.cell hjl
          obtain ⟨nb, hnb⟩ : ∃ nb, N j = nb := ⟨_, rfl⟩
          rw [hnb] at gn
          have HNB := hide1 hnb
          clear hnb
          cases nb
          · by_cases hj0 : (0 : Int) < (j : Int)
            · have gi := HN.out.cell (i := j - 1) (by omega)
              obtain ⟨nb, hnb⟩ : ∃ nb, N (j - 1) = nb := ⟨_, rfl⟩
              rw [hnb] at gi
              have HNI := hide1 hnb
              clear hnb
              cases nb
              · have HRT : Hid (restTo N (j + 1) = setLast (restTo N j) j) := by show _ = _; rw [restTo, HNB.out, HNI.out]; simp; omega
                have hkp : 0 < k := by
                  have := restTo_pos N (j - 1) HNI.out
                  rw [show j - 1 + 1 = j by omega] at this
                  have h2 := HKL.out
                  simp [rangesP] at h2
                  omega
                obtain ⟨k1, rfl⟩ : ∃ k1, k = k1 + 1 := ⟨k - 1, by omega⟩
                have hlr : (restTo N j).length = k1 + 1 := by have h2 := HKL.out; simpa [rangesP] using h2
                obtain ⟨q, hq⟩ : ∃ q, (restTo N j)[k1]? = some q := ⟨_, List.getElem?_eq_getElem (by omega)⟩
                obtain ⟨g, u, e1, hg, hnc, g0, g1, g2, g3, g4, g5, gu⟩ := HP.out.cells_at (rangesP_at hq)
                subst e1
                have gf := HP.out.free_at (k1 * 6 + 2)
                have hgb := (HP.out.lt g rfl).1
                have HLR := hide1 hlr
                have hcr : ((k1 : Int) + 1) ≤ (cr : Int) := by omega
                clear g0 g1 g3 g4 g5 gu hq hlr hkp
                go_wp2_with (go_quiet (fail))
                go_roundw
                case rel =>
                  refine ⟨j + 1, by go_num, by omega, ?_, ?_, ?_⟩
                  · rw [HRT.out]
                    unfold setLast
                    rw [HLR.out]
                    exact HP.out.setTo (by have := HLR.out; omega)
                  · exact HN.out.but (setCell_but _ _ _ _) (by omega)
                  · exact kept_new HK.out (by omega)
                case measure => simp [intOf]; omega
              · have HRT : Hid (restTo N (j + 1) = restTo N j ++ [((j : Int), (j : Int))]) := by show _ = _; rw [restTo, HNB.out, HNI.out]; simp
                go_wp2_with (first
                  | (go_at_call 140; refine (single_is _ _).mono ?_; rintro r w6 ⟨rfl, hk6⟩; unfold rangeV; have HP := hide1 (HP.out.keep hk6); have HN := hide1 (HN.out.keep hk6); have HK := hide1 (kept_on HK.out hk6); clear hk6)
                  | (at_builtin; go_must (refine wpl_append_pat rfl _ _ rfl _ (w.heap.size + 1) (fun d => w.heap.size < d) _ (rangesP (restTo N j)) k HKL.out (by rfl) (HP.out.keep ((Kept.refl _).alloc _ _)) _ (rangeP j j) (.slice none 0 0) (by rfl) (BoxAt.new _ _ _ _ _ _ _) (kids_nil _ _ _ _ _ _ rfl) (by rw [HKL.out]; omega) (by have := HN.out.lt; simp; omega) ?_; intro g9 c9 w9 ho9 hg9; have HK := hide1 (keptP_grown (HK.out.alloc _ _) (HP.out.keep ((Kept.refl _).alloc _ _)) (by omega) hg9); have HN := hide1 (show NamAt w9 w.heap.size N from (heap_grown (HP.out.keep ((Kept.refl _).alloc _ _)) hg9 (by omega) (by have := HN.out.lt; simp; omega)).trans (HN.out.keep ((Kept.refl _).alloc _ _))); have HP := hide1 ho9; clear ho9 hg9))
                  | go_quiet (fail))
                go_roundw
                case rel =>
                  refine ⟨j + 1, by go_num, by omega, ?_, HN.out, HK.out⟩
                  rw [HRT.out, rangesP_snoc]
                  exact HP.out
                case measure => simp [intOf]; omega
            · have HRT : Hid (restTo N (j + 1) = restTo N j ++ [((j : Int), (j : Int))]) := by show _ = _; rw [restTo, HNB.out, if_neg (by simp), if_neg (by omega)]
              go_wp2_with (first
                | (go_at_call 140; refine (single_is _ _).mono ?_; rintro r w6 ⟨rfl, hk6⟩; unfold rangeV; have HP := hide1 (HP.out.keep hk6); have HN := hide1 (HN.out.keep hk6); have HK := hide1 (kept_on HK.out hk6); clear hk6)
                | (at_builtin; go_must (refine wpl_append_pat rfl _ _ rfl _ (w.heap.size + 1) (fun d => w.heap.size < d) _ (rangesP (restTo N j)) k HKL.out (by rfl) (HP.out.keep ((Kept.refl _).alloc _ _)) _ (rangeP j j) (.slice none 0 0) (by rfl) (BoxAt.new _ _ _ _ _ _ _) (kids_nil _ _ _ _ _ _ rfl) (by rw [HKL.out]; omega) (by have := HN.out.lt; simp; omega) ?_; intro g9 c9 w9 ho9 hg9; have HK := hide1 (keptP_grown (HK.out.alloc _ _) (HP.out.keep ((Kept.refl _).alloc _ _)) (by omega) hg9); have HN := hide1 (show NamAt w9 w.heap.size N from (heap_grown (HP.out.keep ((Kept.refl _).alloc _ _)) hg9 (by omega) (by have := HN.out.lt; simp; omega)).trans (HN.out.keep ((Kept.refl _).alloc _ _))); have HP := hide1 ho9; clear ho9 hg9))
                | go_quiet (fail))
              go_roundw
              case rel =>
                refine ⟨j + 1, by go_num, by omega, ?_, HN.out, HK.out⟩
                rw [HRT.out, rangesP_snoc]
                exact HP.out
              case measure => simp [intOf]; omega
          · go_wp2_with (go_quiet (fail))
            go_roundw
            case rel =>
              refine ⟨j + 1, by go_num, by omega, ?_, HN.out, HK.out⟩
              have e : restTo N (j + 1) = restTo N j := by rw [restTo, HNB.out]; rfl
              rw [e]
              exact HP.out
            case measure => simp [intOf]; omega
        · have hj6 : j = 256 := by omega
          subst hj6
          go_wp2_with (go_quiet (fail))
          go_ret
          exact ⟨⟨_, rfl, HP.out⟩, HK.out⟩
end Ex
end Go.Proofs.YtbnchnlogikecaaGreatDoor
namespace Go.Proofs.YtbnchnlogikecaaGreatDoor
open Go.RowKit
attribute [local go_sem] Oper.semAt_some
namespace Ex

theorem escape_val {T : ByteArray} {s : Int × Int × Int} : 0 ≤ (escapeS T s).1 ∧ (escapeS T s).1 ≤ 255 := by
  unfold escapeS
  (repeat' split)
  · simp
  · simp
  · simp
  · simp
  · have h1 := hexR_range T (s.1 + 1 + 1, s.2) s.1
    have h2 := hexR_range T (hexR T (s.1 + 1 + 1, s.2) s.1).2 s.1
    dsimp only
    omega
  · simp
  · exact peek_byte _ _
theorem oneA_val {T : ByteArray} {s : Int × Int × Int} : 0 ≤ (oneA T s).1 ∧ (oneA T s).1 ≤ 255 := by
  unfold oneA
  split
  · exact escape_val
  · unfold oneS
    split
    · exact peek_byte _ _
    · simp
theorem escape_go {T : ByteArray} {s : Int × Int × Int} (h0 : 0 ≤ s.1) (h1 : s.1 < T.size) : s.1 < (escapeS T s).2.1 ∨ (escapeS T s).2.2.1 ≠ 0 := by
  unfold escapeS
  split
  · exact .inr (failE_ne (wrongC_ne _ _))
  · rename_i h2
    have g : OkS T (s.1 + 1 + 1, s.2) := ⟨by show 0 ≤ s.1 + 1 + 1; omega, by show s.1 + 1 + 1 ≤ _; omega⟩
    split
    · left; show s.1 < s.1 + 1 + 1; omega
    · split
      · left; show s.1 < s.1 + 1 + 1; omega
      · split
        · left; show s.1 < s.1 + 1 + 1; omega
        · split
          · have a := hex_ok (o := s.1) g
            have c := hex_ok (o := s.1) a.1
            have a2 : s.1 + 1 + 1 ≤ (hexR T (s.1 + 1 + 1, s.2) s.1).2.1 := a.2
            have c2 := c.2
            left; show s.1 < (hexR T (hexR T (s.1 + 1 + 1, s.2) s.1).2 s.1).2.1; omega
          · split
            · exact .inr (failE_ne (by decide))
            · left; show s.1 < s.1 + 1 + 1; omega
theorem oneA_go {T : ByteArray} {s : Int × Int × Int} : s.1 < (oneA T s).2.1 ∨ (oneA T s).2.2.1 ≠ 0 := by
  unfold oneA
  split
  · rename_i hc
    have := peek_lt (T := T) (k := s.1) (by rw [hc]; decide)
    exact escape_go this.1 this.2
  · exact one_go
theorem memberF_ok {T : ByteArray} {s : Int × Int × Int} (h : OkS T s) : OkS T (memberF T s).2 ∧ s.1 ≤ (memberF T s).2.1 ∧ (s.1 < (memberF T s).2.1 ∨ (memberF T s).2.2.1 ≠ 0) := by
  have h1 := oneA_ok h
  have h2 := oneA_go (T := T) (s := s)
  unfold memberF
  split
  · rename_i hc
    have h3 := oneA_ok (take_ok (T := T) (s := (oneA T s).2) (c := 45) (by decide) hc)
    have h4 := h1.2
    have h5 := h3.2
    dsimp only at h5
    exact ⟨h3.1, by omega, Or.inl (by omega)⟩
  · exact ⟨h1.1, h1.2, h2⟩
theorem memberA_ok {T : ByteArray} {s : Int × Int × Int} {y : Int} (h : OkS T s) : OkS T (memberA T s y).2 ∧ s.1 ≤ (memberA T s y).2.1 ∧ (s.1 < (memberA T s y).2.1 ∨ (memberA T s y).2.2.1 ≠ 0) := by
  have h1 := memberF_ok h
  have e : (memberA T s y).2 = if (memberF T s).1 < (oneA T s).1 then failS T (memberF T s).2 22 y else (memberF T s).2 := rfl
  rw [e]
  split
  · exact ⟨fail_ok _ _ _ _, h.2, Or.inr (failE_ne (by decide))⟩
  · exact h1


theorem memberF_val {T : ByteArray} {s : Int × Int × Int} : 0 ≤ (memberF T s).1 ∧ (memberF T s).1 ≤ 255 := by
  unfold memberF
  split <;> exact oneA_val
/-- A member as a pair, and the state behind it. -/
def memR (T : ByteArray) (s : Int × Int × Int) (y : Int) : (Int × Int) × Int × Int × Int := (((oneA T s).1, (memberF T s).1), (memberA T s y).2)
def Bytes (l : List (Int × Int)) : Prop := ∀ p ∈ l, 0 ≤ p.1 ∧ p.1 ≤ 255 ∧ 0 ≤ p.2 ∧ p.2 ≤ 255
theorem memR_bytes (T : ByteArray) (s : Int × Int × Int) (y : Int) {l : List (Int × Int)} (h : Bytes l) : Bytes (l ++ [(memR T s y).1]) := by
  intro p hp
  rw [List.mem_append] at hp
  rcases hp with hp | hp
  · exact h p hp
  · rw [List.mem_singleton] at hp
    subst hp
    exact ⟨oneA_val.1, oneA_val.2, memberF_val.1, memberF_val.2⟩
/-- The members of a class behind the first one. -/
def clG (T : ByteArray) (y : Int) : Nat → List (Int × Int) → Int × Int × Int → List (Int × Int) × Int × Int × Int
  | 0, l, s => (l, s)
  | m + 1, l, s => if s.2.1 = 0 then (if peekP T s.1 = 93 then (l, s.1 + 1, s.2) else clG T y m (l ++ [(memR T s y).1]) (memR T s y).2) else (l, s)
def clL (T : ByteArray) (s : Int × Int × Int) : List (Int × Int) × Int × Int × Int := clG T s.1 4098 [(memR T (takeK T (s.1 + 1) 94, s.2) s.1).1] (memR T (takeK T (s.1 + 1) 94, s.2) s.1).2
def clR (n : Bool) (l : List (Int × Int)) : List (Int × Int) := if n then othersL l else l
def clE (T : ByteArray) (y : Int) (l : List (Int × Int)) (s : Int × Int × Int) : Pat × Int × Int × Int := if l.length = 0 then (mkP 0 0 0 0 0 [], failS T s 22 y) else (oneOf 3 (rangesP l), s)
def classA (T : ByteArray) (s : Int × Int × Int) : Pat × Int × Int × Int := clE T s.1 (clR (peekP T (s.1 + 1) == 94) (clL T s).1) (clL T s).2
theorem PatsOwn.wide {base base' : Nat} {w : World} {S S' : Nat → Prop} {v : Value} {l : List Pat} (h : PatsOwn w base S v l) (hb : base' ≤ base) (hS : ∀ d, S d → S' d) : PatsOwn w base' S' v l := by
  obtain ⟨xs, h1, h2⟩ := h
  refine ⟨xs, ⟨h1.1, ?_⟩, h2.mono (fun _ _ _ _ h => h) (fun d hd => ⟨hS d hd.1, hd.2⟩)⟩
  rcases h1.2 with h0 | ⟨g, cap, cur, e, h3, h4⟩
  · exact .inl h0
  · exact .inr ⟨g, cap, cur, e, Nat.le_trans hb h3, h4⟩

end Ex
end Go.Proofs.YtbnchnlogikecaaGreatDoor
namespace Go.Proofs.YtbnchnlogikecaaGreatDoor
open Go.RowKit
attribute [local go_sem] Oper.semAt_some
namespace Ex

/-- The loop that reads the members. -/
def ClassR (b : Nat) (w : World) (T : ByteArray) (k : Int) (l0 : List (Int × Int)) (k1 : Int) (s0 : Int × Int × Int) (v : Value) (wr : World) : Prop :=
  ∃ (j : Nat) (l : List (Int × Int)) (k2 e2 f2 : Int), 0 ≤ k2 ∧ k2 ≤ (T.size : Int) ∧ l.length = j + 1 ∧ classB k1 j k2 e2 ∧ KeptBut b w wr ∧ RAt wr b T k2 e2 f2 ∧
    BoxAt wr w.heap.size (.int .i64 0) (.int .i64 0) (.int .i64 0) (.int .i64 0) (.int .i64 0) (.slice none 0 0) ∧ PatsOwn wr (w.heap.size + 1) (fun d => w.heap.size < d) v (rangesP l) ∧ Bytes l ∧ ∀ N, clG T k (j + N) l0 s0 = clG T k N l (k2, e2, f2)
theorem rangesP_len (l : List (Int × Int)) : (rangesP l).length = l.length := by simp [rangesP]
theorem clE_one (T : ByteArray) (y : Int) {l : List (Int × Int)} {q : Int × Int} (s : Int × Int × Int) (h : l = [q]) : clE T y l s = (oneOf 3 [rangeP q.1 q.2], s) := by subst h; rfl
theorem clE_more (T : ByteArray) (y : Int) {l : List (Int × Int)} (s : Int × Int × Int) (h : l.length ≠ 0) : clE T y l s = (oneOf 3 (rangesP l), s) := by unfold clE; rw [if_neg h]
theorem clE_none (T : ByteArray) (y : Int) {l : List (Int × Int)} (s : Int × Int × Int) (h : l.length = 0) : clE T y l s = (mkP 0 0 0 0 0 [], failS T s 22 y) := by unfold clE; rw [if_pos h]

end Ex
end Go.Proofs.YtbnchnlogikecaaGreatDoor
namespace Go.Proofs.YtbnchnlogikecaaGreatDoor
open Go.RowKit
attribute [local go_sem] Oper.semAt_some
namespace Ex

/-- A list of ranges owns what there is to own. -/
theorem PatsOwn.ranges {w : World} {base : Nat} {S : Nat → Prop} {v : Value} {l : List (Int × Int)} (h : PatsOwn w base S v (rangesP l)) : PatsU w base S v (rangesP l) := by
  obtain ⟨xs, h1, h2⟩ := h
  refine ⟨xs, h1, h2.len, fun _ _ => False, fun _ _ h => h.elim, fun _ _ _ h => h.elim, fun i p hi => ?_⟩
  obtain ⟨v', g0, g1, g2, g3, g4, g5, g6⟩ := h2.at hi
  have hi2 := hi
  unfold rangesP at hi2
  rw [List.getElem?_map] at hi2
  obtain ⟨q, _, rfl⟩ := Option.map_eq_some_iff.1 hi2
  exact ⟨v', g0, g1, g2, g3, g4, g5, g6⟩
theorem rangeU_pat (S : Nat → Prop) (w : World) (f t : Int) : PatU S w (rangeP f t) (rangeV f t) := ⟨.slice none 0 0, rfl, kidsO_nil _ _ _ _ _ _ rfl⟩
/-- The list as the kids of a pattern that is answered. -/
theorem endU_list {w wr : World} {l : List Pat} {v : Value} {kd : Int} (ho : PatsU wr (w.heap.size + 1) (fun d => w.heap.size < d) v l) (hl : l.length ≠ 1) (hb : l.length ≤ 100000) :
    PGivU (fun d => w.heap.size ≤ d) (oneOf kd l) (.returned (.agg #[.int .i64 kd, .int .i64 0, .int .i64 0, .int .i64 0, .int .i64 0, v])) ((((((wr.setCell ⟨w.heap.size, 0, none⟩ (.int .i64 kd)).setCell ⟨w.heap.size, 1, none⟩ (.int .i64 0)).setCell ⟨w.heap.size, 2, none⟩ (.int .i64 0)).setCell ⟨w.heap.size, 3, none⟩ (.int .i64 0)).setCell ⟨w.heap.size, 4, none⟩ (.int .i64 0)).setCell ⟨w.heap.size, 5, none⟩ v) := by
  rw [oneOf_more hl]
  exact ⟨_, rfl, v, rfl, KidsO.mono (set6_holdsU (S := fun d => w.heap.size < d) (fun h => absurd h (by omega))) (fun d h => by omega) _ _ _ (ho.kids (fun d h => by omega) (fun _ h => h) (Nat.le_refl _) (by omega))⟩
theorem endU_one {w wr : World} {p : Pat} {u : Value} {kd : Int} {x0 x1 x2 x3 x4 x5 : Value} (hk : KidsO (fun d => w.heap.size < d) wr p.1 (kids p.2) u) :
    PGivU (fun d => w.heap.size ≤ d) (oneOf kd [p]) (.returned (.agg #[.int .i64 (kind p.2), .int .i64 (from_ p.2), .int .i64 (to_ p.2), .int .i64 (min_ p.2), .int .i64 (max_ p.2), u])) ((((((wr.setCell ⟨w.heap.size, 0, none⟩ x0).setCell ⟨w.heap.size, 1, none⟩ x1).setCell ⟨w.heap.size, 2, none⟩ x2).setCell ⟨w.heap.size, 3, none⟩ x3).setCell ⟨w.heap.size, 4, none⟩ x4).setCell ⟨w.heap.size, 5, none⟩ x5) :=
  ⟨_, rfl, u, rfl, KidsO.mono (set6_holdsU (S := fun d => w.heap.size < d) (fun h => absurd h (by omega))) (fun d h => by omega) _ _ _ hk⟩

/-- A loop that makes a list of patterns. -/
def ListU (b : Nat) (w : World) (T : ByteArray) (M : Nat → List Pat → Int × Int × Int → List Pat × Int × Int × Int) (l0 : List Pat) (s0 : Int × Int × Int) (B : Nat → Int → Int → Prop) (v : Value) (wr : World) : Prop :=
  ∃ (j : Nat) (l : List Pat) (k2 e2 f2 : Int), 0 ≤ k2 ∧ k2 ≤ (T.size : Int) ∧ l.length = l0.length + j ∧ B j k2 e2 ∧ KeptBut b w wr ∧ RAt wr b T k2 e2 f2 ∧
    BoxAt wr w.heap.size (.int .i64 0) (.int .i64 0) (.int .i64 0) (.int .i64 0) (.int .i64 0) (.slice none 0 0) ∧ PatsU wr (w.heap.size + 1) (fun d => w.heap.size < d) v l ∧ ∀ N, M (j + N) l0 s0 = M N l (k2, e2, f2)

end Ex
end Go.Proofs.YtbnchnlogikecaaGreatDoor
