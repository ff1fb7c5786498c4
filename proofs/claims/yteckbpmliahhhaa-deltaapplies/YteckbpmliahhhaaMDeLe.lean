import Derived.Test.YteckbpmliahhhaaMDePs
import Derived.Test.YteckbpmliahhhaaMDeLo
import Derived.Test.YteckbpmliahhhaaMDeSx
import Derived.Deep.RegionHeld3
namespace Go.Proofs.Yteckbpmliahhhaa
open Go.RowKit Go.Maps
attribute [local go_sem] Oper.semAt_some
namespace Ex
namespace Tr
attribute [local simp] wide_fn wide_depth

def encHk (h : Hk) : List Value := [.int .i64 (h.fr : Int), .int .i64 (h.to_ : Int), .int .i64 (h.into : Int), .int .i64 (h.upto : Int)]
theorem encHk_one (x : Hk) : ∀ u ∈ encHk x, u.oneCell' = true := fun u hu => by
  unfold encHk at hu
  simp only [List.mem_cons, List.not_mem_nil, or_false] at hu
  rcases hu with rfl | rfl | rfl | rfl <;> rfl
theorem cnt_len (l m : List Int) : ∀ (r : List Int) (i nx : Nat), (cnt l m r i nx).length ≤ r.length
  | [], _, _ => Nat.le_refl _
  | x :: r, i, nx => by
    unfold cnt
    split
    · have := cnt_len l m r (i + 1) ((onceN m x).getD 0 + 1)
      simp only [List.length_cons]
      omega
    · have := cnt_len l m r (i + 1) nx
      simp only [List.length_cons]
      omega
theorem hks_len (L M : Nat) : ∀ (P : List (Nat × Nat)) (f i : Nat), (hks L M P f i).length ≤ P.length + 1
  | [], f, i => by unfold hks; split <;> simp
  | (a, p) :: r, f, i => by
    have := hks_len L M r (a + 1) (p + 1)
    unfold hks
    rw [List.length_append, List.length_cons]
    split <;> simp <;> omega
/-- Lists of hunks. -/
def hkE : ElK Hk := { T := 83, TT := 73, sz := 4, by_ := 32, z := .agg #[.int .i64 0, .int .i64 0, .int .i64 0, .int .i64 0], enc := encHk, pos := by decide, info := by kernel_rfl, zs := rfl, und := Try.underlying73, len := fun _ => rfl, one := encHk_one }
theorem LO.low {α : Type} {E : ElK α} {w : World} {base base' : Nat} {v : Value} {l : List α} (h : LO E w base v l) (hb : base' ≤ base) : LO E w base' v l := by
  refine ⟨h.1, ?_⟩
  rcases h.2 with h0 | ⟨g, cap, cur, h1, h2, h3⟩
  · exact Or.inl h0
  · exact Or.inr ⟨g, cap, cur, h1, Nat.le_trans hb h2, h3⟩
/-- While the hunks are put into a list. -/
def LeI (B ab bb pb mb : Nat) (w w5 : World) (lb H : Nat) (T : Nat → Prop) (pre : List (Hk × (Nat × Nat))) (W : World) : Prop :=
  (∀ k, T k → H ≤ k) ∧ H ≤ W.heap.size ∧ Kept w W ∧ KX (pX B ab bb pb mb) w5 W ∧ ∃ v, W.heap[lb]? = some (.cells #[v] 73 (0, 0)) ∧ LO hkE W H v (pre.map Prod.fst) ∧ ∀ d, v.ownBlock = some d → ¬ T d
theorem LeI.stable {B ab bb pb mb : Nat} {w w5 : World} {lb H : Nat} (hw : w.heap.size ≤ H) (hl : lb < H) (hX : ∀ k, pX B ab bb pb mb k → k < H) : StableW (LeI B ab bb pb mb w w5 lb H) := by
  rintro T T' s A A' ⟨g1, g2, g3, g4, v, g5, g6, g7⟩ hs
  have hn : ∀ k, k < H → ¬ T k := fun k hk h => by have := g1 k h; omega
  have hst : ∀ k, k < H → A'.heap[k]? = A.heap[k]? := fun k hk => hs.2.2.2.2.1 k (by omega) (hn k hk)
  refine ⟨fun k hk => ?_, Nat.le_trans g2 hs.2.2.2.1, ⟨hs.1.trans g3.1, hs.2.1.trans g3.2.1, hs.2.2.1.trans g3.2.2.1, Nat.le_trans g3.2.2.2.1 hs.2.2.2.1, fun k hk => (hst k (by omega)).trans (g3.2.2.2.2 k hk)⟩, ⟨Nat.le_trans g4.1 hs.2.2.2.1, fun k hk => (hst k (hX k hk)).trans (g4.2 k hk)⟩, v, (hst lb hl).trans g5, g6.same (fun d hd => hs.2.2.2.2.1 d (g6.lt' d hd).2 (g7 d hd)), fun d hd ht => ?_⟩
  · rcases hs.2.2.2.2.2 k hk with h | h
    · exact g1 k h
    · omega
  · rcases hs.2.2.2.2.2 d ht with h | h
    · exact g7 d hd h
    · have := (g6.lt' d hd).2
      omega

set_option linter.unusedSimpArgs false in
set_option maxRecDepth 100000 in
set_option maxHeartbeats 4000000 in
theorem leavesD_is (R : Nat → Prop) (N : Nat → Nd) (B a b : Nat) (w : World) (hF : Forest R N B w) (hL : LeafSum N R) (hN : NumOk R N) (ha : R a) (hb : R b) (hB : B ≤ w.heap.size) :
    Calls Try.prog 26 #[.pointer (some ⟨a, 0, none⟩), .pointer (some ⟨b, 0, none⟩)] w fun e w' => ∃ v, e = .returned v ∧ LO hkE w' w.heap.size v (hunksL N a b) ∧ Kept w w' := by
  have HF := hide1 hF
  have HA := hide1 ha
  have HB := hide1 hb
  have HN := hide1 hN
  have HL := hide1 hL
  obtain ⟨hs, hhs⟩ : ∃ hs, hunksL N a b = hs := ⟨_, rfl⟩
  have hlen : hs.length ≤ 4194305 := by
    have h1 := hks_len (numL N (lvs N a)).length (numL N (lvs N b)).length (pairsL (numL N (lvs N a)) (numL N (lvs N b))) 0 0
    have h2 := cnt_len (numL N (lvs N a)) (numL N (lvs N b)) (numL N (lvs N a)) 0 0
    have h3 : (numL N (lvs N a)).length ≤ 4194304 := by unfold numL; rw [List.length_map]; exact lvs_len hF ha
    rw [← hhs]
    unfold hunksL pairsL at *
    omega
  rw [hhs]
  have HHS := hide1 hhs
  clear hF ha hb hN hL hhs
  refine (callsIn_wide (n := 5)).1 ?_
  refine callsIn_of_wp_marks Try.func26 rfl trivial ?_ rfl
  simp only [Try.ntmps26, List.size_toArray, List.length_cons, List.length_nil, Nat.reduceAdd, Nat.reduceSub, Array.replicate_succ, Array.replicate_zero, List.push_toArray, List.append_toArray, List.nil_append, List.cons_append]
  refine (wpIn_wide (n := 5)).2 ?_
  have hkA : Kept w (w.alloc (.cells #[.slice none 0 0] 73)) := (Kept.refl w).alloc _ _
  have HPT := hide1 (partings_is R N B a b _ (HF.out.kb (hkA.kb hB)) HN.out HA.out HB.out (Nat.le_trans hB hkA.size))
  go_wp2_with (go_at_call 38; refine HPT.out.mono ?_; rintro e w5 ⟨ab, bb, pb, mb, n, rfl, h1, h2, h3, h4, hp5, hk5⟩; have HP5 := hide1 hp5; have HK5 := hide1 hk5; have HLE : Hid (w.heap.size + 1 ≤ ab ∧ w.heap.size + 1 ≤ bb ∧ w.heap.size + 1 ≤ pb ∧ w.heap.size + 1 ≤ mb) := (by simp only [World.size_alloc] at h1 h2 h3 h4; exact ⟨h1, h2, h3, h4⟩); clear h1 h2 h3 h4 hp5 hk5)
  obtain ⟨lb, hlb⟩ : ∃ lb, w.heap.size = lb := ⟨_, rfl⟩
  obtain ⟨wA, hwA⟩ : ∃ wA, w.alloc (.cells #[.slice none 0 0] 73) = wA := ⟨_, rfl⟩
  rw [hwA] at HK5 hkA
  have hsA : wA.heap.size = lb + 1 := by rw [← hwA, World.size_alloc, hlb]
  have hlA : wA.heap[lb]? = some (.cells #[.slice none 0 0] 73 (0, 0)) := by rw [← hwA, ← hlb]; exact World.alloc_heap_new w _
  have hl5 : w5.heap[lb]? = some (.cells #[.slice none 0 0] 73 (0, 0)) := (HK5.out.2.2.2.2 lb (by omega)).trans hlA
  have hk5 : Kept w w5 := gtrans hkA HK5.out
  have hle := HLE.out
  rw [hlb] at hle
  have hpl := HP5.out.lt
  have hs5 : lb + 1 ≤ w5.heap.size := by have := HK5.out.size; omega
  have hF5 : Forest R N B w5 := HF.out.kb (hk5.kb hB)
  have hseq := parts_seq 4 (by omega) R N B a b ab bb pb mb n w5 hF5 HL.out HN.out HA.out HB.out (by omega) HP5.out
  rw [HHS.out] at hseq
  have hI0 : LeI B ab bb pb mb w w5 lb w5.heap.size (fun _ => False) [] w5 := ⟨fun _ h => h.elim, Nat.le_refl _, hk5, ⟨Nat.le_refl _, fun _ _ => rfl⟩, _, hl5, LO.nil _ _, fun _ _ h => h⟩
  rw [hlb]
  have HSEQ := hide1 hseq
  have HI0 := hide1 hI0
  have HX : Hid (∀ k, pX B ab bb pb mb k → k < w5.heap.size ∧ k ≠ lb) := fun k hk => by rcases hk with h | rfl | rfl | rfl | rfl <;> omega
  have HE : Hid (w.heap.size = lb ∧ lb + 1 ≤ w5.heap.size) := ⟨hlb, hs5⟩
  clear hseq hI0 hF5 hpl hle hk5 hl5 hlA hsA hwA HK5 hkA HLE HPT hlb hs5 HP5
  refine (wpIn_wide (n := 5)).1 ?_
  refine range_A rfl (by omega) (gf := 46) (lb := #[.pointer (some ⟨bb, 0, none⟩), .pointer (some ⟨pb, 0, none⟩), .pointer (some ⟨ab, 0, none⟩)]) rfl trivial (enters_of Try.func46 (by kernel_rfl) rfl) HSEQ.out ?kp KX.trans (fun _ => rfl)
    (LeI B ab bb pb mb w w5 lb w5.heap.size) (fun _ _ _ _ => False) (LeI.stable (by have := HE.out; omega) (by have := HE.out; omega) (fun k hk => (HX.out k hk).1)) (fun _ _ _ _ _ _ h _ => h) HI0.out
    (fun x W => W.alloc (.cells #[.int .i64 (x.1.fr : Int), .int .i64 (x.1.to_ : Int), .int .i64 (x.1.into : Int), .int .i64 (x.1.upto : Int)] 83)) (fun x W => (Kept.refl W).alloc _ _)
    (fun x W => { tmps := #[.pointer (some ⟨a, 0, none⟩), .pointer (some ⟨b, 0, none⟩), undef, undef, .slice none 0 0, .pointer (some ⟨lb, 0, none⟩), .pointer (some ⟨W.heap.size, 0, none⟩), .pointer (some ⟨a, 0, none⟩), .pointer (some ⟨b, 0, none⟩), .func (.func 46) #[] #[.pointer (some ⟨bb, 0, none⟩), .pointer (some ⟨pb, 0, none⟩), .pointer (some ⟨ab, 0, none⟩)], .agg #[.int .i64 (x.1.fr : Int), .int .i64 (x.1.to_ : Int), .int .i64 (x.1.into : Int), .int .i64 (x.1.upto : Int)], .agg #[.int .i64 (x.2.1 : Int), .int .i64 (x.2.2 : Int)], undef, undef, undef, undef, undef], defers := [] })
    ?assign ?body ?done (fun _ _ _ _ _ h => h.elim)
  case kp => exact fun A A' h1 h2 h3 => ⟨h2, fun k hk => h3 k (HX.out k hk).1⟩
  case assign =>
    intro l x W K hK
    have HK := hide1 hK
    clear hK
    dsimp only [encH]
    gi_wp2
    exact HK.out
  case body =>
    rintro T pre x W0 V hw0 hTl hbx hVs ⟨g1, g2, g3, g4, v, g5, g6, g7⟩ hpre hTb hT0 hT1 hsz hloop
    have hb0 : V.heap[W0.heap.size]? = some (.cells #[.int .i64 (x.1.fr : Int), .int .i64 (x.1.to_ : Int), .int .i64 (x.1.into : Int), .int .i64 (x.1.upto : Int)] 83 (0, 0)) := (hbx _ (Nat.le_refl _)).trans (World.alloc_heap_new W0 _)
    have hplen : pre.length < 4194305 := by
      have h1 := hpre.length_le
      rw [List.length_append, List.length_map] at h1
      simp at h1
      omega
    obtain ⟨m, hm⟩ : ∃ m, (pre.map Prod.fst).length = m := ⟨_, rfl⟩
    have hm4 : m < 4194305 := by rw [← hm, List.length_map]; exact hplen
    obtain ⟨va, vc, rfl⟩ : ∃ a c, v = .slice a m c := by rw [← hm]; exact g6.form
    obtain ⟨c0, f0⟩ := one_cell g5
    obtain ⟨b0, b1, b2, b3, _⟩ := HBox.cells hb0
    have HV := hide1 g5
    have HO := hide1 g6
    have HM := hide1 hm
    have HG1 := hide1 g1
    have HG2 := hide1 g2
    have HG3 := hide1 g3
    have HG4 := hide1 g4
    have HG7 := hide1 g7
    have HT : Hid (∀ k, T k → k < V.heap.size) := fun k hk => (hTb k hk).2
    clear g1 g2 g3 g4 g5 g6 g7 hpre hplen hm hTb hT0 hT1 hsz hloop hbx hVs hw0 hTl hb0
    gi_wp2_with (gi_at_builtin
                 refine wplIn_lo (E := hkE) rfl _ _ rfl w5.heap.size (.slice va m vc) (pre.map Prod.fst) m HM.out rfl (HO.out.keep ((Kept.refl V).alloc _ _)) V.heap.size x.1 rfl (World.alloc_heap_new V _) (by show (m + 1) * 32 ≤ _; omega) (by unfold maxLen; omega) (Nat.le_trans HG2.out (alloc_le V _)) ?_
                 intro g9 cp9 w9 ho9 hg9 hor9 hl9
                 have HO9 := hide1 ho9
                 have HGR := hide1 hg9
                 have HOR := hide1 hor9
                 have hlbx : w9.heap[lb]? = some (.cells #[.slice va m vc] 73 (0, 0)) := (hg9.block lb (by have := HE.out; have := HG2.out; simp; omega) (fun e => by have h1 := (HO.out.lt' lb e.symm).1; have := HE.out; omega)).trans ((heap_alloc_old V _ (by have := HE.out; have := HG2.out; omega)).trans HV.out)
                 have HL9 := hide1 hlbx
                 obtain ⟨u0, u1⟩ := one_cell hlbx
                 clear ho9 hg9 hor9 hl9 hlbx)
    have hE := HE.out
    have h2 := HG2.out
    have hgr := HGR.out
    have hkV : Kept V (V.alloc (.cells #[.int .i64 (x.1.fr : Int), .int .i64 (x.1.to_ : Int), .int .i64 (x.1.into : Int), .int .i64 (x.1.upto : Int)] 83)) := (Kept.refl V).alloc _ _
    have hK : KT (fun k => k = lb ∨ (Value.slice va m vc).ownBlock = some k) V (w9.setCell ⟨lb, 0, none⟩ (.slice (some ⟨g9, 0, none⟩) (m + 1) cp9)) :=
      (hkV.kt _).trans (KT.trans ⟨hgr.os, hgr.tape, hgr.output, hgr.size, fun k hk hn => hgr.block k hk (fun e => hn (Or.inr e.symm))⟩ (KeptBut.kt (setCell_but w9 lb 0 _) (Or.inl rfl)))
    have hown : ∀ d, (Value.slice va m vc).ownBlock = some d → w5.heap.size ≤ d ∧ ¬ T d := fun d hd => ⟨(HO.out.lt' d hd).1, HG7.out d hd⟩
    have hg9 := HO9.out.lt' g9 rfl
    refine ⟨hK.2.2.2.1, fun k hk => ?_, ⟨hK.2.2.2.1, fun k hk => ?_⟩, HG1.out, Nat.le_trans h2 hK.2.2.2.1, ⟨hK.1.trans HG3.out.1, hK.2.1.trans HG3.out.2.1, hK.2.2.1.trans HG3.out.2.2.1, Nat.le_trans HG3.out.2.2.2.1 hK.2.2.2.1, fun k hk => ?_⟩, ⟨Nat.le_trans HG4.out.1 hK.2.2.2.1, fun k hk => ?_⟩, .slice (some ⟨g9, 0, none⟩) (m + 1) cp9, ?_, ?_, fun d hd ht => ?_⟩
    · have h1 := HG1.out k hk
      refine hK.2.2.2.2 k (HT.out k hk) (fun e => ?_)
      rcases e with e | e
      · omega
      · exact (hown k e).2 hk
    · have h1 := HX.out k hk
      refine hK.2.2.2.2 k (by omega) (fun e => ?_)
      rcases e with e | e
      · omega
      · have := (hown k e).1; omega
    · refine (hK.2.2.2.2 k (by omega) (fun e => ?_)).trans (HG3.out.2.2.2.2 k hk)
      rcases e with e | e
      · omega
      · have := (hown k e).1; omega
    · have h1 := HX.out k hk
      refine (hK.2.2.2.2 k (by omega) (fun e => ?_)).trans (HG4.out.2 k hk)
      rcases e with e | e
      · omega
      · have := (hown k e).1; omega
    · exact set_one HL9.out _
    · rw [List.map_append]
      exact HO9.out.same (fun d hd => Below.heap_setCell _ _ _ _ (by simp only [Value.ownBlock, Option.some.injEq] at hd; subst hd; show g9 ≠ lb; omega))
    · simp only [Value.ownBlock, Option.some.injEq] at hd
      subst hd
      rcases HOR.out with h | h
      · exact (hown g9 h).2 ht
      · have := HT.out g9 ht
        simp only [World.size_alloc] at h
        omega
  case done =>
    rintro T V ⟨g1, g2, g3, g4, v, g5, g6, g7⟩ hdef hTb hT0 hT1
    have he : ((hs.map (withS N b)).map Prod.fst) = hs := by
      rw [List.map_map]
      have : Prod.fst ∘ withS N b = id := rfl
      rw [this, List.map_id]
    rw [he] at g6
    obtain ⟨va, vc, rfl⟩ := g6.form
    obtain ⟨c0, f0⟩ := one_cell g5
    have HO := hide1 g6
    have HG3 := hide1 g3
    have HDEF := hide1 hdef
    have HG7 := hide1 g7
    have HT0 := hide1 hT0
    clear g1 g2 g3 g4 g5 g6 g7 he hdef hTb hT0 hT1
    go_wp2_with fail
    refine ⟨by simp, .inl ⟨_, _, rfl, run_takeDeferred HDEF.out, ?_⟩⟩
    have hE := HE.out
    refine ⟨_, results_tmp rfl _ _ _, _, rfl, (HO.out.low (by omega)).same (fun d hd => World.putObj_heap_other (fun e => HG7.out d hd (by rw [e]; exact HT0.out))), HG3.out.put (by omega) _⟩

end Tr
end Ex
end Go.Proofs.Yteckbpmliahhhaa
namespace Go.Proofs.Yteckbpmliahhhaa
open Go.RowKit
attribute [local go_sem] Oper.semAt_some
namespace Ex
namespace Tr

def encU8 (y : Int) : List Value := [.int .u8 y]
theorem encU8_one (y : Int) : ∀ u ∈ encU8 y, u.oneCell' = true := fun u hu => by
  unfold encU8 at hu
  simp only [List.mem_cons, List.not_mem_nil, or_false] at hu
  subst hu
  rfl
/-- Lists of bytes. -/
def u8E : ElK Int := { T := 5, TT := 78, sz := 1, by_ := 1, z := .int .u8 0, enc := encU8, pos := by decide, info := by kernel_rfl, zs := rfl, und := Try.underlying78, len := fun _ => rfl, one := encU8_one }
theorem flatE_app2 {α : Type} (E : ElK α) (l m : List α) : flatE E (l ++ m) = flatE E l ++ flatE E m := by unfold flatE; simp
theorem flatE_one {α : Type} (E : ElK α) (l : List α) : ∀ u ∈ flatE E l, u.oneCell' = true := fun u hu => by
  unfold flatE at hu
  obtain ⟨x, _, h⟩ := List.mem_flatMap.1 hu
  exact E.one x u h
theorem flatE_lenT {α : Type} (E : ElK α) (l : List α) : (flatE E l).length = l.length * E.sz := by
  induction l with
  | nil => simp [flatE]
  | cons x l ih =>
    have e : flatE E (x :: l) = E.enc x ++ flatE E l := by unfold flatE; simp
    rw [e, List.length_append, ih, E.len, List.length_cons, Nat.add_mul]
    omega
/-- Where a list's elements can be read. -/
def Src {α : Type} (E : ElK α) (w : World) (sa : Option Addr) (ys : List α) : Prop := ys = [] ∨ ∃ g o, sa = some ⟨g, o, none⟩ ∧ ∀ j u, (flatE E ys)[j]? = some u → w.cell? ⟨g, o + j, none⟩ = some u
theorem Src.keep {α : Type} {E : ElK α} {w w' : World} {sa : Option Addr} {ys : List α} (h : Src E w sa ys) (hk : Kept w w') : Src E w' sa ys := by
  rcases h with h | ⟨g, o, h1, h2⟩
  · exact Or.inl h
  · exact Or.inr ⟨g, o, h1, fun j u hj => grown_cell hk (h2 j u hj)⟩
theorem lo_zero {α : Type} {E : ElK α} {w : World} {base : Nat} {v : Value} {l : List α} (h : LO E w base v l) (a : Option Addr) (cap : Nat) (ty : TypeId) :
    (Builtin.append_ #[E.TT, E.TT] ty #[v, .slice a 0 cap]).run Try.prog w = .ok v w := by
  obtain ⟨i0, hi, hz0, hz1, hz2⟩ := info_parts E.info
  have ht := E.und
  rcases h.2 with ⟨rfl, h0⟩ | ⟨g, c, cur, rfl, _, _, hnc, _⟩
  · cases a <;> simp [Builtin.append_, run_underlying ht, sizeOf, typeInfo, hi, Builtin.lenOf, Builtin.firstCells, loadCells, loadCellsFrom, Result.andThen]
  · cases a <;> simp [Builtin.append_, run_underlying ht, sizeOf, typeInfo, hi, Builtin.lenOf, Builtin.firstCells, hnc, storeCells, loadCells, loadCellsFrom, Result.andThen]
/-- append of a list. -/
theorem lo_many {α : Type} {E : ElK α} {w : World} {base : Nat} {v : Value} {l : List α} (h : LO E w base v l) (ty : TypeId) {sa : Option Addr} {ys : List α} (sc : Nat) (hs : Src E w sa ys) (hl : (l.length + ys.length) * E.by_ ≤ 140737488355328) (hl2 : l.length + ys.length ≤ maxLen) (hbase : base ≤ w.heap.size) :
    ∃ a' cap w', (Builtin.append_ #[E.TT, E.TT] ty #[v, .slice sa ys.length sc]).run Try.prog w = .ok (.slice a' (l.length + ys.length) cap) w' ∧ LO E w' base (.slice a' (l.length + ys.length) cap) (l ++ ys) ∧ w.grownBy w' v.ownBlock ∧ ((Value.slice a' (l.length + ys.length) cap).ownBlock = v.ownBlock ∨ (Value.slice a' (l.length + ys.length) cap).ownBlock = some w.heap.size) := by
  by_cases hy : ys = []
  · subst hy
    obtain ⟨b', c', rfl⟩ := h.form
    refine ⟨b', c', w, lo_zero h sa sc ty, ?_, ⟨rfl, rfl, rfl, Nat.le_refl _, fun _ _ _ => rfl⟩, Or.inl rfl⟩
    rw [List.append_nil]
    exact h
  · rcases hs with hs | ⟨g0, o0, rfl, hc⟩
    · exact absurd hs hy
    · obtain ⟨i0, hi, hz0, hz1, hz2⟩ := info_parts E.info
      obtain ⟨g, cap, w', hr, h2, h3, h4, h5⟩ := run_append_lies (P := Try.prog) w E.TT ty base E.T i0 _ E.sz E.by_ E.und hi hz0 hz1 hz2 E.zs E.pos v l.length (flatE E l) h ⟨g0, o0, none⟩ ys.length sc (flatE E ys) (by rw [flatE_lenT]) (fun j y hj => by rw [Addr.add_lit]; exact hc j y hj) (flatE_one E ys) (List.length_pos_iff.2 hy) hl2 hl hbase w.heap.size rfl
      refine ⟨some ⟨g, 0, none⟩, cap, w', hr, ?_, h3, ?_⟩
      · unfold LO
        rw [flatE_app2, List.length_append]
        exact h2
      · rcases h4 with h4 | h4
        · exact Or.inl h4.symm
        · exact Or.inr (by rw [h4]; rfl)
section
variable {α : Type} {E : ElK α} {w : World} {ops : Array Oper} {rest : List Oper} {o : Oper} {a : Act} {Q : Exit → Act → World → Prop}
theorem step_many {K : Act → World → Prop} {EE : Prop} (hgd : o.guard = none) (s x : Operand) (ho : o.op = .call { callee := .builtin .append, args := #[s, x], argTypes := #[E.TT, E.TT] }) (base : Nat) (v : Value) (l ys : List α) (m n k : Nat) (hm : l.length = m) (hn : ys.length = n) (hk : m + n = k) (hs : a.eval s = v) (hown : LO E w base v l) (sa : Option Addr) (sc : Nat) (hx : a.eval x = .slice sa n sc) (hsrc : Src E w sa ys) (hl : k * E.by_ ≤ 140737488355328) (hl2 : k ≤ maxLen) (hbase : base ≤ w.heap.size)
    (h : ∀ a' cap w', LO E w' base (.slice a' k cap) (l ++ ys) → w.grownBy w' v.ownBlock → ((Value.slice a' k cap).ownBlock = v.ownBlock ∨ (Value.slice a' k cap).ownBlock = some w.heap.size) → K (a.put o.dst (.slice a' k cap)) w') :
    if Region.wanted o (yielded ops a.tmps) = true then Oper.wp Try.prog o a w K Q else EE := by
  subst hm hn hk
  have hw : Region.wanted o (yielded ops a.tmps) = true := by simp [Region.wanted, hgd]
  rw [if_pos hw]
  obtain ⟨a', cap, w', hr, h2, h3, h4⟩ := lo_many hown o.type sc hsrc hl hl2 hbase
  unfold Oper.wp
  simp [execOp, ho, resolve, invoke, builtin, hs, hx, hr, Result.andThen]
  exact h a' cap w' h2 h3 h4
theorem wpl_many (hgd : o.guard = none) (s x : Operand) (ho : o.op = .call { callee := .builtin .append, args := #[s, x], argTypes := #[E.TT, E.TT] }) (base : Nat) (v : Value) (l ys : List α) (m n k : Nat) (hm : l.length = m) (hn : ys.length = n) (hk : m + n = k) (hs : a.eval s = v) (hown : LO E w base v l) (sa : Option Addr) (sc : Nat) (hx : a.eval x = .slice sa n sc) (hsrc : Src E w sa ys) (hl : k * E.by_ ≤ 140737488355328) (hl2 : k ≤ maxLen) (hbase : base ≤ w.heap.size)
    (h : ∀ a' cap w', LO E w' base (.slice a' k cap) (l ++ ys) → w.grownBy w' v.ownBlock → ((Value.slice a' k cap).ownBlock = v.ownBlock ∨ (Value.slice a' k cap).ownBlock = some w.heap.size) → wpList Try.prog ops Q rest (a.put o.dst (.slice a' k cap)) w') : wpList Try.prog ops Q (o :: rest) a w := by
  subst hm hn hk
  obtain ⟨a', cap, w', hr, h2, h3, h4⟩ := lo_many hown o.type sc hsrc hl hl2 hbase
  refine wpList_plain hgd fun K hK => ?_
  unfold Oper.wp
  simp [execOp, ho, resolve, invoke, builtin, hs, hx, hr, Result.andThen]
  exact hK _ _ (h a' cap w' h2 h3 h4)
end
/-- An edit that came in, and its bytes. -/
def EdIn (w : World) (v : Value) (l : List EdX) (bs : List (List Int)) : Prop := EdRd w v l ∧ bs.length = l.length ∧ ∀ (i : Nat) (e : EdX) (y : List Int), l[i]? = some e → bs[i]? = some y → e.n = y.length ∧ e.n ≤ e.bc ∧ e.n ≤ 140737488351232 ∧ Src u8E w e.ba y
theorem EdIn.keep {w w' : World} {v : Value} {l : List EdX} {bs : List (List Int)} (h : EdIn w v l bs) (hk : Kept w w') : EdIn w' v l bs := ⟨h.1.keep hk, h.2.1, fun i e y h1 h2 => by obtain ⟨a, b, c, d⟩ := h.2.2 i e y h1 h2; exact ⟨a, b, c, d.keep hk⟩⟩
/-- A copy of an edit: the same numbers, its bytes in memory of their own with a mark behind them. -/
def EdCp (w : World) (base : Nat) (e : EdX) (y : List Int) (c : EdX) : Prop := c.at_ = e.at_ ∧ c.del = e.del ∧ c.n = e.n ∧ e.n = y.length ∧ LO u8E w base (.slice c.ba (c.n + 1) c.bc) (y ++ [165])


end Tr
end Ex
end Go.Proofs.Yteckbpmliahhhaa
