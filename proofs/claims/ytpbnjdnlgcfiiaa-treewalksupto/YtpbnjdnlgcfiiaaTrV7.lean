import Derived.Test.YtpbnjdnlgcfiiaaTrV5
import Derived.RangeFuncLeaves
import Derived.OwnWalkIn
namespace Go.Proofs.Ytpbnjdnlgcfiiaa
open Go.RowKit
attribute [local go_sem] Oper.semAt_some
namespace Ex
namespace Tr
attribute [local simp] wide_fn
attribute [local go_sem] run_store_fn node_same

set_option linter.unusedSimpArgs false in
set_option maxRecDepth 100000 in
set_option maxHeartbeats 8000000 in
theorem walked_l (n : Nat) (R : Nat → Prop) (N : Nat → Nd) (B b fb i m cp gp vc : Nat) (va : Option Addr) (stop : Int) (w : World) (hF : Forest R N B w) (hb : R b) (hB : B ≤ w.heap.size) (hR : Reads fb gp m cp va ((wl N (N b).size [b] 0).filter (leafB N)) w) (hi : i < m) (hc : w.cell? ⟨gp, i, none⟩ = some (.pointer (some ⟨b, 0, none⟩))) (hn : n ≤ 4194304) (hL : ((wl N (N b).size [b] 0).filter (leafB N)).length = n) (hm : m ≤ 4194304) :
    Calls Try.prog 11 #[.pointer (some ⟨fb, 0, none⟩), .int .i64 (i : Int), .slice va n vc, .bool true, .int .i64 stop] w fun e w' => e = .returned (.bool true) ∧ Kept w w' := by
  have hfb := hR.1
  have HR := hide1 hR
  have HF := hide1 hF
  have HB := hide1 hb
  obtain ⟨xs, hxs⟩ : ∃ xs, (wl N (N b).size [b] 0).filter (leafB N) = xs := ⟨_, rfl⟩
  rw [hxs] at HR hL
  have HXS := hide1 hxs
  have HL := hide1 hL
  clear hR hF hb hL hxs
  have hiI : (i : Int) < (m : Int) := by omega
  have hmI : (m : Int) ≤ 4194304 := by omega
  have hnI : (n : Int) ≤ 4194304 := by omega
  refine (callsIn_wide (n := 5)).1 ?_
  refine callsIn_of_wp_marks Try.func11 rfl trivial ?_ rfl
  simp only [Try.ntmps11, List.size_toArray, List.length_cons, List.length_nil, Nat.reduceAdd, Nat.reduceSub, Array.replicate_succ, Array.replicate_zero, List.push_toArray, List.append_toArray, List.nil_append, List.cons_append]
  refine (wpIn_wide (n := 5)).2 ?_
  obtain ⟨w4, hw4⟩ : ∃ w4, (((w.alloc (.cells #[.pointer (some ⟨fb, 0, none⟩)] 23)).alloc (.cells #[.slice va n vc] 27)).alloc (.cells #[.int .i64 stop] 3)).alloc (.cells #[.bool false] 4) = w4 := ⟨_, rfl⟩
  have hk4 : Kept w w4 := by rw [← hw4]; exact ((((Kept.refl w).alloc _ _).alloc _ _).alloc _ _).alloc _ _
  have hs4 : w4.heap.size = w.heap.size + 4 := by rw [← hw4]; simp
  have HBX : Hid (w4.cell? ⟨w.heap.size, 0, none⟩ = some (.pointer (some ⟨fb, 0, none⟩)) ∧ w4.cell? ⟨w.heap.size + 1, 0, none⟩ = some (.slice va n vc) ∧ w4.cell? ⟨w.heap.size + 2, 0, none⟩ = some (.int .i64 stop) ∧ w4.heap[w.heap.size + 3]? = some (.cells #[.bool false] 4 (0, 0))) := by
    show _ ∧ _ ∧ _ ∧ _
    obtain ⟨u1, hu1⟩ : ∃ u1, w.alloc (.cells #[.pointer (some ⟨fb, 0, none⟩)] 23) = u1 := ⟨_, rfl⟩
    obtain ⟨u2, hu2⟩ : ∃ u2, u1.alloc (.cells #[.slice va n vc] 27) = u2 := ⟨_, rfl⟩
    obtain ⟨u3, hu3⟩ : ∃ u3, u2.alloc (.cells #[.int .i64 stop] 3) = u3 := ⟨_, rfl⟩
    rw [hu1, hu2, hu3] at hw4
    have z1 : u1.heap.size = w.heap.size + 1 := by rw [← hu1]; simp
    have z2 : u2.heap.size = w.heap.size + 2 := by rw [← hu2]; simp [z1]
    have z3 : u3.heap.size = w.heap.size + 3 := by rw [← hu3]; simp [z2]
    have k2 : Kept u1 u2 := by rw [← hu2]; exact (Kept.refl u1).alloc _ _
    have k3 : Kept u2 u3 := by rw [← hu3]; exact (Kept.refl u2).alloc _ _
    have k4 : Kept u3 w4 := by rw [← hw4]; exact (Kept.refl u3).alloc _ _
    have c1 := (new_cell w (.pointer (some ⟨fb, 0, none⟩)) 23).1
    rw [hu1] at c1
    have c2 := (new_cell u1 (.slice va n vc) 27).1
    rw [hu2, z1] at c2
    have c3 := (new_cell u2 (.int .i64 stop) 3).1
    rw [hu3, z2] at c3
    have c4 := World.alloc_heap_new u3 (.cells #[.bool false] 4)
    rw [hw4, z3] at c4
    exact ⟨grown_cell (gtrans k2 (gtrans k3 k4)) c1, grown_cell (gtrans k3 k4) c2, grown_cell k4 c3, c4⟩
  have f4 := grown_cell hk4 hfb
  have c4 := grown_cell hk4 hc
  have HK4 := hide1 hk4
  have HS4 := hide1 hs4
  rw [← hw4] at f4 c4
  have HW4 := hide1 hw4
  clear hk4 hs4 hw4 hfb hc
  have kfn := fun (ups : Array Value) (W : World) => func_nil 36 ups W
  have kfl := fun (ups : Array Value) (W : World) => func_nil 71 ups W
  obtain ⟨c1, _⟩ := HBX.out
  have c1' := c1
  rw [← HW4.out] at c1'
  go_wp2_with (first
    | (go_at_call 13; refine (walk_is _ _).mono ?_; rintro e w5 ⟨rfl, hw5⟩; have HW5 := hide1 hw5; obtain ⟨m5, z5, l5⟩ := new_cell w5 .nilFunc 49; rw [HW4.out] at hw5; have hk5 : Kept w4 w5 := (by rw [hw5]; exact (Kept.refl w4).alloc _ _); have hkA : Kept w4 (w5.alloc (.cells #[.func (.func 36) #[] #[.pointer (some ⟨w.heap.size + 1 + 1 + 1 + 1, 0, none⟩)]] 49)) := gtrans hk5 ((Kept.refl w5).alloc _ _); have HKA := hide1 hkA; rw [HW4.out] at f4 c4; have fA := grown_cell hkA f4; have cA := grown_cell hkA c4; have bA := grown_cell hkA c1; obtain ⟨mA, zA, lA⟩ := new_cell w5 (.func (.func 36) #[] #[.pointer (some ⟨w.heap.size + 1 + 1 + 1 + 1, 0, none⟩)]) 49; clear hw5 hk5 hkA f4 c4 c1')
    | (go_at_call 35; refine (leaves_is _ _).mono ?_; rintro e w7 ⟨rfl, hw7⟩; have HW7 := hide1 hw7; have hk7 : Kept _ w7 := (by rw [hw7]; exact (Kept.refl (w5.alloc (.cells #[.func (.func 36) #[] #[.pointer (some ⟨w.heap.size + 1 + 1 + 1 + 1, 0, none⟩)]] 49))).alloc _ _); have m7 := grown_cell hk7 mA; have z7 : w7.frozen? ⟨w5.heap.size, 0, none⟩ = false := (by rw [World.frozen?_of_block (hk7.2.2.2.2 w5.heap.size lA)]; exact zA); have l7 : w5.heap.size < w7.heap.size := Nat.lt_of_lt_of_le lA hk7.size; have HK7 := hide1 hk7; clear hw7 hk7 fA cA bA mA zA lA m5 z5 l5))
  obtain ⟨bsq, hbsq⟩ : ∃ bsq, w5.heap.size = bsq := ⟨_, rfl⟩
  obtain ⟨br, hbr⟩ : ∃ br, bsq + 1 = br := ⟨_, rfl⟩
  rw [hbsq] at m7 z7 l7 ⊢
  rw [hbr]
  obtain ⟨w6, hw6⟩ : ∃ w6, w7.setCell ⟨bsq, 0, none⟩ (.func (.func 71) #[] #[.pointer (some ⟨br, 0, none⟩)]) = w6 := ⟨_, rfl⟩
  have hsA : (w5.alloc (.cells #[.func (.func 36) #[] #[.pointer (some ⟨w.heap.size + 1 + 1 + 1 + 1, 0, none⟩)]] 49)).heap.size = br := by simp; omega
  have HBR7 : Hid (w7.heap[br]? = some (.cells #[.pointer (some ⟨b, 0, none⟩)] 45 (0, 0))) := by rw [HW7.out, ← hsA]; exact World.alloc_heap_new _ _
  have HK47 : Hid (Kept w4 w7) := gtrans HKA.out HK7.out
  have h45 : w4.heap.size ≤ bsq := by rw [← hbsq, HW5.out, HW4.out]; exact alloc_le w4 _
  have HK46 : Hid (Kept w4 w6) := by rw [← hw6]; exact KeptBut.new HK47.out (setCell_but _ _ _ _) h45
  have HSQ : Hid (w6.cell? ⟨bsq, 0, none⟩ = some (.func (.func 71) #[] #[.pointer (some ⟨br, 0, none⟩)])) := by rw [← hw6]; exact World.cell?_setCell_same' _ _ _ (by rw [m7]; rfl)
  have HBR : Hid (br < w6.heap.size ∧ w6.cell? ⟨br, 0, none⟩ = some (.pointer (some ⟨b, 0, none⟩))) := by
    have h1 : w6.heap[br]? = some (.cells #[.pointer (some ⟨b, 0, none⟩)] 45 (0, 0)) := by rw [← hw6]; exact (Below.heap_setCell _ _ _ _ (show br ≠ bsq by omega)).trans HBR7.out
    exact ⟨(Array.getElem?_eq_some_iff.1 h1).1, by simp [World.cell?, h1]⟩
  have HRCX : Hid True := trivial
  have hsz6 : w7.heap.size = w6.heap.size := by rw [← hw6]; simp [World.setCell]
  rw [hw6, hsz6]
  clear hw6 m7 z7 l7 kfn kfl c1 hbsq hbr hsA h45 hsz6
  obtain ⟨bn0, hbn0⟩ : ∃ bn0, w6.heap.size = bn0 := ⟨_, rfl⟩
  obtain ⟨rc, hrc⟩ : ∃ rc, w.heap.size + 1 + 1 + 1 = rc := ⟨_, rfl⟩
  have HRC : Hid (w6.heap[rc]? = some (.cells #[.bool false] 4 (0, 0))) := by
    rw [← hrc]
    exact (HK46.out.2.2.2.2 (w.heap.size + 3) (by have := HS4.out; omega)).trans HBX.out.2.2.2
  have HST : Hid (Stat fb gp m cp w.heap.size (w.heap.size + 1) (w.heap.size + 1 + 1) bsq br b va n vc (.func (.func 71) #[] #[.pointer (some ⟨br, 0, none⟩)]) stop xs R N B w6) := by
    have hk6 : Kept w w6 := gtrans HK4.out HK46.out
    refine ⟨grown_cell HK46.out HBX.out.1, grown_cell HK46.out HBX.out.2.1, grown_cell HK46.out HBX.out.2.2.1, HSQ.out, HR.out.kb (hk6.kb (Nat.le_refl _)), HF.out.kb (hk6.kb hB), Nat.le_trans hB hk6.size, HBR.out.1, HBR.out.2⟩
  have HK06 : Hid (Kept w w6) := gtrans HK4.out HK46.out
  have hsr : w.heap.size + 3 = rc := by omega
  have hs06 : w.heap.size + 4 ≤ w6.heap.size := by have := HK46.out.size; have := HS4.out; omega
  obtain ⟨bf, hbf⟩ : ∃ bf, w.heap.size = bf := ⟨_, rfl⟩
  rw [hbf] at HST hsr hs06
  have HBF := hide1 hbf
  rw [hrc, hbf]
  clear hrc hbf hbn0 HRCX
  -- LOOP
  refine wp_loop (WdO bf (bf + 1) (bf + 1 + 1) rc bsq w6) (fun a' w' => 2 - cntC w' (a'.tmps.getD 12 undef)) ?_ ?_
  · refine ⟨0, w6.heap.size, [], wdF_of _ (by kernel_rfl), by decide, ((Kept.refl w6).alloc _ _).ka (Nat.le_refl _), ⟨Nat.le_refl _, World.alloc_heap_new w6 _⟩, List.nodup_nil, fun D hD => by simp at hD⟩
  · rintro a' wr ⟨k, bn, Ds, ⟨T, rfl⟩, hk2, HKR, HBN, HDS⟩
    obtain ⟨cn, zn, lbn⟩ := box_of HBN.out.2
    by_cases hlt : (k : Int) < 2
    · obtain ⟨w7, hw7⟩ : ∃ w7, wr.alloc (.cells #[.int .i64 0] 3) = w7 := ⟨_, rfl⟩
      have hkr7 : Kept wr w7 := by rw [← hw7]; exact (Kept.refl wr).alloc _ _
      have hs7 : w7.heap.size = wr.heap.size + 1 := by rw [← hw7]; simp
      have HK67 : Hid (KA w6.heap.size w6 w7) := HKR.out.trans (hkr7.ka HKR.out.2.2.2.1)
      have h67 := HKR.out.2.2.2.1
      have HST7 := hide1 (HST.out.kb HK67.out.kb)
      have sq7 := HST7.out.2.2.2.1
      rw [← hw7] at sq7
      obtain ⟨bk, hbk⟩ : ∃ bk, wr.heap.size = bk := ⟨_, rfl⟩
      have HBK7 : Hid (w7.heap[bk]? = some (.cells #[.int .i64 0] 3 (0, 0))) := by rw [← hw7, ← hbk]; exact World.alloc_heap_new wr _
      have HBN7 : Hid (w7.heap[bn]? = some (.cells #[.int .i64 (k : Int)] 3 (0, 0))) := (hkr7.2.2.2.2 bn lbn).trans HBN.out.2
      have HDS7 : Hid (Ds.Nodup ∧ ∀ D, D ∈ Ds → w6.heap.size ≤ D ∧ w7.heap[D]? = some (.deferred (some []))) := ⟨HDS.out.1, fun D hD => ⟨(HDS.out.2 D hD).1, (hkr7.2.2.2.2 D (Array.getElem?_eq_some_iff.1 (HDS.out.2 D hD).2).1).trans (HDS.out.2 D hD).2⟩⟩
      have HW7 := hide1 hw7
      have HBKE := hide1 hbk
      clear hw7 hbk
      go_wp2_with fail
      rw [HW7.out, HBKE.out]
      rw [HBKE.out] at hs7 h67 lbn
      have hbn6 := HBN.out.1
      have HCN := hide1 cn
      clear hkr7 sq7 cn zn
      have HSEQ := hide1 (leaves_seq 4 (by omega) R N B br b w7 HST7.out.2.2.2.2.2.1 HB.out HST7.out.2.2.2.2.2.2.1 HST7.out.2.2.2.2.2.2.2.1 HST7.out.2.2.2.2.2.2.2.2)
      rw [HXS.out] at HSEQ
      have HI0 : Hid (WdI w7 bk (fun _ => False) [] w7) := ⟨fun _ h => h.elim, (Kept.refl w7).tbut bk, HBK7.out⟩
      have hB7 := HST.out.2.2.2.2.2.2.1
      have hbr7 := HST.out.2.2.2.2.2.2.2.1
      refine frame_toW (wdG_of (bf := bf) (bw := bf + 1) (bq := bf + 1 + 1) (rc := rc) (bsq := bsq) (bn := bn) (bk := bk) (fv := .func (.func 71) #[] #[.pointer (some ⟨br, 0, none⟩)]) _ (by kernel_rfl)) ?_
      rintro a' ⟨T, rfl⟩
      refine (wpIn_wide (n := 5)).1 ?_
      refine range_W rfl (by omega) (gf := 71) (lb := #[.pointer (some ⟨br, 0, none⟩)]) rfl trivial (enters_of Try.func71 (by kernel_rfl) rfl) HSEQ.out ?kp KX.trans (fun _ => rfl)
        (WdI w7 bk) (fun c _ W => WdX w7 bk k stop c W) (WdI.stable (by omega)) (fun c _ W l o h h1 _ => h.put (by omega) h1 o) HI0.out
        (fun x => { tmps := List.toArray (T 0 :: T 1 :: T 2 :: T 3 :: T 4 :: (.pointer (some ⟨bf, 0, none⟩)) :: T 6 :: (.pointer (some ⟨bf + 1, 0, none⟩)) :: T 8 :: (.pointer (some ⟨bf + 1 + 1, 0, none⟩)) :: (.pointer (some ⟨rc, 0, none⟩)) :: (.pointer (some ⟨bsq, 0, none⟩)) :: (.pointer (some ⟨bn, 0, none⟩)) :: (.pointer (some ⟨bk, 0, none⟩)) :: (.int .i64 (x.1 : Int)) :: (.pointer (some ⟨x.2, 0, none⟩)) :: T 16 :: T 17 :: T 18 :: T 19 :: T 20 :: T 21 :: T 22 :: T 23 :: T 24 :: T 25 :: T 26 :: T 27 :: T 28 :: T 29 :: T 30 :: T 31 :: T 32 :: T 33 :: T 34 :: T 35 :: T 36 :: T 37 :: T 38 :: T 39 :: T 40 :: T 41 :: (.func (.func 71) #[] #[.pointer (some ⟨br, 0, none⟩)]) :: (.int .i64 (x.1 : Int)) :: (.pointer (some ⟨x.2, 0, none⟩)) :: T 45 :: T 46 :: T 47 :: T 48 :: T 49 :: T 50 :: T 51 :: T 52 :: T 53 :: T 54 :: T 55 :: T 56 :: T 57 :: T 58 :: T 59 :: T 60 :: T 61 :: T 62 :: T 63 :: T 64 :: T 65 :: T 66 :: T 67 :: T 68 :: T 69 :: T 70 :: T 71 :: T 72 :: T 73 :: T 74 :: T 75 :: T 76 :: T 77 :: T 78 :: T 79 :: T 80 :: T 81 :: T 82 :: T 83 :: T 84 :: T 85 :: T 86 :: T 87 :: T 88 :: T 89 :: T 90 :: T 91 :: T 92 :: T 93 :: T 94 :: T 95 :: T 96 :: T 97 :: T 98 :: T 99 :: T 100 :: T 101 :: T 102 :: T 103 :: T 104 :: T 105 :: T 106 :: T 107 :: T 108 :: T 109 :: T 110 :: T 111 :: T 112 :: T 113 :: T 114 :: T 115 :: T 116 :: T 117 :: T 118 :: T 119 :: T 120 :: T 121 :: T 122 :: T 123 :: T 124 :: T 125 :: T 126 :: T 127 :: T 128 :: T 129 :: T 130 :: T 131 :: T 132 :: T 133 :: T 134 :: T 135 :: T 136 :: T 137 :: T 138 :: T 139 :: T 140 :: []), defers := [] })
        ?assign ?body ?done ?stop
      case kp => exact fun A A' h1 h2 h3 => ⟨h2, fun q hq => h3 q (by omega)⟩
      case assign =>
        intro l x W K hK
        have HK := hide1 hK
        clear hK
        dsimp only [encW]
        gi_wp2
        exact HK.out
      case body =>
        rintro TT pre x W ⟨g1, g2, g3⟩ hpre hTb hT0 hT1 hsz ⟨lr, hlr0, hlr⟩
        obtain ⟨at9, c⟩ := x
        obtain ⟨pl, hpl⟩ : ∃ pl, pre.length = pl := ⟨_, rfl⟩
        rw [hpl] at g3
        have hat : xs[pl]? = some (at9, c) := by
          obtain ⟨tt, ht⟩ := hpre
          rw [← ht, ← hpl]
          simp
        have hpn : pl < n := by
          have h1 := (List.getElem?_eq_some_iff.1 hat).1
          rw [HL.out] at h1
          exact h1
        have hKW : KA w6.heap.size w6 W := HK67.out.trans ⟨g2.1, g2.2.1, g2.2.2.1, g2.2.2.2.1, fun q hq => g2.2.2.2.2 q (by omega) (by omega)⟩
        obtain ⟨s1, s2, s3, s4, s5, s6, s7, s8, s9⟩ := HST.out.kb hKW.kb
        obtain ⟨g, d, pp, e1, r1, r2, r3, hpp, r4⟩ := s5.2 pl (at9, c) hat
        have s51 := s5.1
        subst e1
        dsimp only at r2 r4
        obtain ⟨kc, kz, kl⟩ := box_of g3
        have cn1 := (box_of ((g2.2.2.2.2 bn (by omega) (by omega)).trans HBN7.out)).1
        have hplI : (pl : Int) < (n : Int) := by omega
        have hppI : (pp : Int) < (m : Int) := by omega
        have hd1 : decide ((n : Int) ≤ (pl : Int)) = false := decide_eq_false (by omega)
        have hd2 : decide (n ≤ pl) = false := decide_eq_false (by omega)
        have HG1 := hide1 g1
        have HG2 := hide1 g2
        have HG3 := hide1 g3
        have HPL := hide1 hpl
        have HTB := hide1 hTb
        have HKW := hide1 hKW
        have HLR := hide1 hlr
        by_cases hbrk : k = 0 ∧ (pl : Int) = stop
        · have ek : ((k : Int) == 0) = true := by rw [hbrk.1]; rfl
          have ep : ((pl : Int) == stop) = true := by rw [hbrk.2]; simp
          have HBK := hide1 hbrk
          clear hbrk g1 g2 g3 hpl hTb hKW hlr hat hpre hT0 hT1 hsz s5 s6 s7 s8 s9 r1 r2 r3 r4 s51
          dsimp only
          gi_wp2_with fail
          exact ⟨fun _ _ => rfl, rfl, HBK.out.1, pl, HBK.out.2, HG2.out, HG3.out⟩
        · have hnb : (((k : Int) == 0) = true ∧ ((pl : Int) == stop) = false) ∨ ((k : Int) == 0) = false := by
            by_cases h0 : k = 0
            · exact Or.inl ⟨by rw [h0]; rfl, by simpa using fun h => hbrk ⟨h0, h⟩⟩
            · exact Or.inr (by simp; omega)
          clear hbrk g1 g2 g3 hpl hTb hKW hlr hat hpre hT0 hT1 hsz s5 s6 s7 s8 s9
          rcases hnb with ⟨ek, ep⟩ | ek
          all_goals
            dsimp only
            gi_wp2_with fail
            refine region_quiet_round (by kernel_rfl) (by kernel_rfl) (by kernel_rfl) ?_
            repeat (gi_big_quiet_step (fail))
            refine wpQuietIn_nil ?_
            intro _ hw'
            obtain ⟨nq, hw''⟩ := hw'
            subst hw''
            obtain ⟨wy, hwy⟩ : ∃ wy, W.drewN nq = wy := ⟨_, rfl⟩
            have HKy : Hid (Kept W wy) := by rw [← hwy]; exact drewN_kept _ _
            rw [hwy]
            have HGY : Hid (wy.heap[bk]? = some (.cells #[.int .i64 (pl : Int)] 3 (0, 0))) := (HKy.out.2.2.2.2 bk kl).trans HG3.out
            obtain ⟨ky, kzy, kly⟩ := box_of HGY.out
            have HKZ : Hid (KA w6.heap.size w6 (wy.setCell ⟨bk, 0, none⟩ (.int .i64 ((pl : Int) + 1)))) := (HKW.out.trans (HKy.out.ka HKW.out.2.2.2.1)).trans ((setCell_but wy bk 0 (.int .i64 ((pl : Int) + 1))).ka (by omega) (Nat.le_trans HKW.out.2.2.2.1 HKy.out.size))
            have HZB := hide1 (box_of (box_set HGY.out)).1
            have kz1 : (wy.setCell ⟨bk, 0, none⟩ (.int .i64 ((pl : Int) + 1))).cell? ⟨bk, 0, none⟩ = some (.int .i64 ((pl : Int) + 1)) := by rw [HZB.out, Int.natCast_add]; rfl
            have HTT : Hid (∀ q, TT q → q < W.heap.size) := fun q hq => (HTB.out q hq).2
            have hB6 : B ≤ bk := by omega
            have hbr6 : br < bk := by omega
            have hbk7 : bk < w7.heap.size := by omega
            clear hwy kc kz s51 r1 r2 r3 r4 s1 s2 s3 s4 cn1 HZB
            by_cases hp1 : pl = 1
            · have e2 : ((pl : Int) + 1 == 2) = true := by rw [hp1]; rfl
              have HP1 := hide1 hp1
              clear hp1
              obtain ⟨wz, hwz⟩ : ∃ wz, wy.setCell ⟨bk, 0, none⟩ (.int .i64 ((pl : Int) + 1)) = wz := ⟨_, rfl⟩
              have HKZ2 : Hid (KA w6.heap.size w6 wz) := by rw [← hwz]; exact HKZ.out
              have hzs : W.heap.size ≤ wz.heap.size := by rw [← hwz]; exact Nat.le_trans HKy.out.size (setCell_but wy bk 0 (.int .i64 ((pl : Int) + 1))).2.2.2.1
              obtain ⟨w8, hw8⟩ : ∃ w8, wz.alloc (.cells #[.int .i64 0] 3) = w8 := ⟨_, rfl⟩
              have hk8 : Kept wz w8 := by rw [← hw8]; exact (Kept.refl wz).alloc _ _
              have HK68 : Hid (KA w6.heap.size w6 w8) := HKZ2.out.trans (hk8.ka HKZ2.out.2.2.2.1)
              have HST8 := hide1 (HST.out.kb HK68.out.kb)
              have sq8 := HST8.out.2.2.2.1
              rw [← hw8, ← hwz] at sq8
              have hs8 : w8.heap.size = wz.heap.size + 1 := by rw [← hw8]; simp
              obtain ⟨bi, hbi⟩ : ∃ bi, wz.heap.size = bi := ⟨_, rfl⟩
              have HBI8 : Hid (w8.heap[bi]? = some (.cells #[.int .i64 0] 3 (0, 0))) := by rw [← hw8, ← hbi]; exact World.alloc_heap_new wz _
              have HLR8 : Hid (w8.heap[w7.heap.size + 1]? = some (.loop lr)) := by
                have h1 := (Array.getElem?_eq_some_iff.1 HLR.out).1
                show _ = _
                rw [hk8.2.2.2.2 _ (by omega), ← hwz, Below.heap_setCell _ _ _ _ (show w7.heap.size + 1 ≠ bk by omega), HKy.out.2.2.2.2 _ h1]
                exact HLR.out
              have HWZ := hide1 hwz
              have HW8 := hide1 hw8
              have HBI := hide1 hbi
              have HK8 := hide1 hk8
              clear hwz hw8 hbi hk8
              gi_wp2_with fail
              have ebi : (wy.setCell ⟨bk, 0, none⟩ (.int .i64 ((pl : Int) + 1))).heap.size = bi := by rw [HWZ.out, HBI.out]
              simp only [World.size_setCell] at ebi
              rw [ebi, HWZ.out, HW8.out]
              have HSEQ8 := hide1 (leaves_seq (5 - 1 - 1 - 1) (by omega) R N B br b w8 HST8.out.2.2.2.2.2.1 HB.out HST8.out.2.2.2.2.2.2.1 HST8.out.2.2.2.2.2.2.2.1 HST8.out.2.2.2.2.2.2.2.2)
              rw [HXS.out] at HSEQ8
              have HI8 : Hid (WdI w8 bi (fun _ => False) [] w8) := ⟨fun _ h => h.elim, (Kept.refl w8).tbut bi, HBI8.out⟩
              have hbi6 : w6.heap.size ≤ bi := by have := HKZ2.out.2.2.2.1; rw [HBI.out] at this; exact this
              rw [HBI.out] at hs8 hzs
              clear ebi sq8 ky kzy kly kl e2 ek kz1 hplI hppI hd1 hd2
              refine frame_toWIn (wdH_of (bf := bf) (bw := bf + 1) (bq := bf + 1 + 1) (rc := rc) (bsq := bsq) (bn := bn) (bk := bk) (bi := bi) (fv := .func (.func 71) #[] #[.pointer (some ⟨br, 0, none⟩)]) _ (by kernel_rfl)) ?_
              rintro a' ⟨T, rfl⟩
              refine range_WN (F := Fence.wide.inRound (w7.heap.size + 1)) rfl HLR8.out (by omega) (gf := 71) (lb := #[.pointer (some ⟨br, 0, none⟩)]) rfl trivial (enters_of Try.func71 (by kernel_rfl) rfl) (seqW_round HSEQ8.out) ?kp3 KX.trans (fun _ => rfl)
                (WdI w8 bi) (WdI.stable (by omega)) HI8.out
                (fun x => { tmps := List.toArray (T 0 :: T 1 :: T 2 :: T 3 :: T 4 :: (.pointer (some ⟨bf, 0, none⟩)) :: T 6 :: (.pointer (some ⟨bf + 1, 0, none⟩)) :: T 8 :: (.pointer (some ⟨bf + 1 + 1, 0, none⟩)) :: (.pointer (some ⟨rc, 0, none⟩)) :: (.pointer (some ⟨bsq, 0, none⟩)) :: (.pointer (some ⟨bn, 0, none⟩)) :: (.pointer (some ⟨bk, 0, none⟩)) :: T 14 :: T 15 :: (.pointer (some ⟨bi, 0, none⟩)) :: (.int .i64 (x.1 : Int)) :: (.pointer (some ⟨x.2, 0, none⟩)) :: T 19 :: T 20 :: T 21 :: T 22 :: T 23 :: T 24 :: T 25 :: T 26 :: T 27 :: T 28 :: T 29 :: T 30 :: T 31 :: T 32 :: T 33 :: T 34 :: T 35 :: T 36 :: T 37 :: T 38 :: T 39 :: T 40 :: T 41 :: T 42 :: T 43 :: T 44 :: T 45 :: T 46 :: T 47 :: T 48 :: T 49 :: T 50 :: T 51 :: T 52 :: T 53 :: T 54 :: T 55 :: T 56 :: T 57 :: T 58 :: T 59 :: T 60 :: T 61 :: T 62 :: T 63 :: T 64 :: T 65 :: T 66 :: T 67 :: T 68 :: T 69 :: T 70 :: T 71 :: T 72 :: T 73 :: T 74 :: T 75 :: T 76 :: T 77 :: T 78 :: T 79 :: T 80 :: T 81 :: T 82 :: T 83 :: T 84 :: T 85 :: T 86 :: (.func (.func 71) #[] #[.pointer (some ⟨br, 0, none⟩)]) :: (.int .i64 (x.1 : Int)) :: (.pointer (some ⟨x.2, 0, none⟩)) :: T 90 :: T 91 :: T 92 :: T 93 :: T 94 :: T 95 :: T 96 :: T 97 :: T 98 :: T 99 :: T 100 :: T 101 :: T 102 :: T 103 :: T 104 :: T 105 :: T 106 :: T 107 :: T 108 :: T 109 :: T 110 :: T 111 :: T 112 :: T 113 :: T 114 :: T 115 :: T 116 :: T 117 :: T 118 :: T 119 :: T 120 :: T 121 :: T 122 :: T 123 :: T 124 :: T 125 :: T 126 :: T 127 :: T 128 :: T 129 :: T 130 :: T 131 :: T 132 :: T 133 :: T 134 :: T 135 :: T 136 :: T 137 :: T 138 :: T 139 :: T 140 :: []), defers := [] })
                ?as3 ?bo3 ?do3
              case kp3 => exact fun A A' h1 h2 h3 => ⟨h2, fun q hq => h3 q (by omega)⟩
              case as3 =>
                intro l x W K hK
                have HK := hide1 hK
                clear hK
                dsimp only [encW]
                gi_wp2
                exact HK.out
              case bo3 =>
                rintro T3 pre3 x W3 ⟨j1, j2, j3⟩ hpre3 hTb3 hT03 hsz3
                obtain ⟨at3, c3⟩ := x
                obtain ⟨p3, hp3⟩ : ∃ p3, pre3.length = p3 := ⟨_, rfl⟩
                rw [hp3] at j3
                have hat3 : xs[p3]? = some (at3, c3) := by
                  obtain ⟨tt, ht⟩ := hpre3
                  rw [← ht, ← hp3]
                  simp
                have hpn3 : p3 < n := by
                  have h1 := (List.getElem?_eq_some_iff.1 hat3).1
                  rw [HL.out] at h1
                  exact h1
                have hKW3 : KA w6.heap.size w6 W3 := HK68.out.trans ⟨j2.1, j2.2.1, j2.2.2.1, j2.2.2.2.1, fun q hq => j2.2.2.2.2 q (by omega) (by omega)⟩
                obtain ⟨s1, s2, s3, s4, s5, s6, s7, s8, s9⟩ := HST.out.kb hKW3.kb
                obtain ⟨g', d3, pp3, e3, r1, r2, r3, hpp3, r4⟩ := s5.2 p3 (at3, c3) hat3
                have s51 := s5.1
                injection e3 with e3
                injection e3 with e3
                subst e3
                dsimp only at r2 r4
                obtain ⟨kc3, kz3, kl3⟩ := box_of j3
                have hplI3 : (p3 : Int) < (n : Int) := by omega
                have hppI3 : (pp3 : Int) < (m : Int) := by omega
                have hd13 : decide ((n : Int) ≤ (p3 : Int)) = false := decide_eq_false (by omega)
                have hd23 : decide (n ≤ p3) = false := decide_eq_false (by omega)
                have J1 := hide1 j1
                have J2 := hide1 j2
                have J3 := hide1 j3
                have HP3 := hide1 hp3
                have HTB3 : Hid (∀ q, T3 q → q < W3.heap.size) := fun q hq => (hTb3 q hq).2
                clear j1 j2 j3 hp3 hTb3 hKW3 hat3 hpre3 hT03 hsz3 s5 s6 s7 s8 s9
                dsimp only
                gi_wp2_with fail
                refine region_quiet_round (l0 := bi + 1) (by kernel_rfl) (by kernel_rfl) (by kernel_rfl) ?_
                repeat (gi_big_quiet_step (fail))
                refine wpQuietIn_nil ?_
                intro _ hw'
                obtain ⟨nq3, hw''⟩ := hw'
                subst hw''
                obtain ⟨wy3, hwy3⟩ : ∃ wy3, W3.drewN nq3 = wy3 := ⟨_, rfl⟩
                have HKy3 : Hid (Kept W3 wy3) := by rw [← hwy3]; exact drewN_kept _ _
                rw [hwy3]
                obtain ⟨ky3, kzy3, kly3⟩ := box_of ((HKy3.out.2.2.2.2 bi kl3).trans J3.out)
                clear hwy3 kc3 kz3 s51 r1 r2 r3 r4 s1 s2 s3 s4
                gi_wp2_with fail
                obtain ⟨q1, q2, q3, q4⟩ := wd_fin (x := (at3, c3)) J1.out J2.out J3.out HP3.out HTB3.out (show bi < w8.heap.size by omega) (show B ≤ bi by omega) (show br < bi by omega) HKy3.out (Kept.refl _)
                exact ⟨q1, q2, q3, q4⟩
              case do3 =>
                rintro T3 W3 ⟨j1, j2, j3⟩ hTb3
                rw [HL.out] at j3
                obtain ⟨kc3, kz3, kl3⟩ := box_of j3
                have hKW3 : KA w6.heap.size w6 W3 := HK68.out.trans ⟨j2.1, j2.2.1, j2.2.2.1, j2.2.2.2.1, fun q hq => j2.2.2.2.2 q (by omega) (by omega)⟩
                have s2 := (HST.out.kb hKW3.kb).2.1
                have HKF : Hid (Kept (wy.setCell ⟨bk, 0, none⟩ (.int .i64 ((pl : Int) + 1))) W3) := by rw [HWZ.out]; exact KeptBut.new HK8.out j2 (by rw [HBI.out]; exact Nat.le_refl _)
                clear j1 j2 j3 hKW3 hTb3
                gi_wp2_with fail
                obtain ⟨q1, q2, q3, q4⟩ := wd_fin (x := (at9, c)) HG1.out HG2.out HG3.out HPL.out HTT.out hbk7 hB6 hbr6 HKy.out HKF.out
                exact ⟨q1, q2, q3, q4⟩
            · have e2 : ((pl : Int) + 1 == 2) = false := by simp; omega
              clear hp1
              gi_wp2_with fail
              obtain ⟨q1, q2, q3, q4⟩ := wd_fin (x := (at9, c)) HG1.out HG2.out HG3.out HPL.out HTT.out hbk7 hB6 hbr6 HKy.out (Kept.refl _)
              exact ⟨q1, q2, q3, q4⟩
      case done =>
        rintro D TT W hD ⟨g1, g2, g3⟩ hdef hTb hT0 hT1
        rw [HL.out] at g3
        obtain ⟨kc, kz, kl⟩ := box_of g3
        have hKW : KA w6.heap.size w6 W := HK67.out.trans ⟨g2.1, g2.2.1, g2.2.2.1, g2.2.2.2.1, fun q hq => g2.2.2.2.2 q (by omega) (by omega)⟩
        obtain ⟨s1, s2, s3, _⟩ := HST.out.kb hKW.kb
        have cn1 := (box_of ((g2.2.2.2.2 bn (by omega) (by omega)).trans HBN7.out)).1
        have HDW := hide1 (wd_marks HDS7.out g2 hD hdef HBK7.out (by omega))
        have HKW := hide1 hKW
        clear g1 g2 g3 hKW hdef hTb hT0 hT1
        dsimp only
        go_wp2_with fail
        refine ⟨wdO_next (k := k) HKW.out HDW.out (by omega) (wdF_of _ (by kernel_rfl)), ?_⟩
        show 2 - cntC _ (.pointer (some ⟨W.heap.size, 0, none⟩)) < 2 - cntC wr (.pointer (some ⟨bn, 0, none⟩))
        rw [cntC_of HCN.out, cntC_of (k := k + 1) (by rw [(new_cell W _ _).1]; rfl)]
        omega
      case stop =>
        rintro D c pre0 W hD _ ⟨rfl, hk0, p, hps, g2, g3⟩ hdef
        obtain ⟨kc, kz, kl⟩ := box_of g3
        have hKW : KA w6.heap.size w6 W := HK67.out.trans ⟨g2.1, g2.2.1, g2.2.2.1, g2.2.2.2.1, fun q hq => g2.2.2.2.2 q (by omega) (by omega)⟩
        obtain ⟨s1, s2, s3, _⟩ := HST.out.kb hKW.kb
        have cn1 := (box_of ((g2.2.2.2.2 bn (by omega) (by omega)).trans HBN7.out)).1
        have HDW := hide1 (wd_marks HDS7.out g2 hD hdef HBK7.out (by omega))
        have HKW := hide1 hKW
        have ek : ((k : Int) == 1) = false := by rw [hk0]; rfl
        have ep : ((p : Int) != stop) = false := by rw [hps]; simp
        clear g2 g3 hKW hdef hps hk0
        dsimp only
        refine wpIn_wide.2 ?_
        by_cases hml : (p : Int) = (n : Int)
        · have em : ((p : Int) != (n : Int)) = false := by rw [hml]; simp
          clear hml
          go_wp2_with fail
          refine ⟨wdO_next (k := k) HKW.out HDW.out (by omega) (wdF_of _ (by kernel_rfl)), ?_⟩
          show 2 - cntC _ (.pointer (some ⟨W.heap.size, 0, none⟩)) < 2 - cntC wr (.pointer (some ⟨bn, 0, none⟩))
          rw [cntC_of HCN.out, cntC_of (k := k + 1) (by rw [(new_cell W _ _).1]; rfl)]
          omega
        · have em : ((p : Int) != (n : Int)) = true := by simpa using hml
          clear hml
          go_wp2_with fail
          refine ⟨wdO_next (k := k) HKW.out HDW.out (by omega) (wdF_of _ (by kernel_rfl)), ?_⟩
          show 2 - cntC _ (.pointer (some ⟨W.heap.size, 0, none⟩)) < 2 - cntC wr (.pointer (some ⟨bn, 0, none⟩))
          rw [cntC_of HCN.out, cntC_of (k := k + 1) (by rw [(new_cell W _ _).1]; rfl)]
          omega
    · have HRW : Hid (wr.heap[rc]? = some (.cells #[.bool false] 4 (0, 0))) := (HKR.out.2.2.2.2 rc (by omega)).trans HRC.out
      have rr : wr.cell? ⟨rc, 0, none⟩ = some (.bool false) := by simp [World.cell?, HRW.out]
      have rz : wr.frozen? ⟨rc, 0, none⟩ = false := by simp [World.frozen?, HRW.out]
      have rl : rc < wr.heap.size := (Array.getElem?_eq_some_iff.1 HRW.out).1
      go_wp2_with fail
      obtain ⟨h1, h2⟩ := rc_end (Kept.refl w6 |> fun h => KA.kept h HKR.out |> fun h' => gtrans HK06.out h') (show w.heap.size ≤ rc by have := HBF.out; omega) HRW.out
      have hne : ∀ D, D ∈ Ds → D ≠ rc := fun D hD => by have := (HDS.out.2 D hD).1; omega
      refine leaves_marks Ds _ HDS.out.1 (fun D hD => (Below.heap_setCell _ _ _ _ (hne D hD)).trans (HDS.out.2 D hD).2) (fun W' e1 e2 e3 e4 e5 => ?_)
      have hr' : W'.heap[rc]? = some (.cells #[.bool true] 4 (0, 0)) := (e5 rc (fun h => hne rc h rfl)).trans h2
      refine ⟨_, results_bool rfl _ _ rc (.bool true) rfl (by simp [World.cell?, hr']), rfl, ?_⟩
      exact ⟨e1.trans h1.1, e2.trans h1.2.1, e3.trans h1.2.2.1, by rw [e4]; exact h1.size, fun q hq => (e5 q (fun h => by have := (HDS.out.2 q h).1; have := HBF.out; omega)).trans (h1.2.2.2.2 q hq)⟩

end Tr
end Ex
end Go.Proofs.Ytpbnjdnlgcfiiaa
