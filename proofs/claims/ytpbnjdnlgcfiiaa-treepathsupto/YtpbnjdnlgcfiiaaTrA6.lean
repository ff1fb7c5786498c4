import Derived.Test.YtpbnjdnlgcfiiaaTrAz
import Derived.Test.YtpbnjdnlgcfiiaaTrR1
import Derived.Test.YtpbnjdnlgcfiiaaTrRc
import Derived.RangeFuncLeaves
import Derived.OwnWalkIn
import Derived.Sort.CutIn
namespace Go.Proofs.Ytpbnjdnlgcfiiaa
open Go.RowKit
attribute [local go_sem] Oper.semAt_some
namespace Ex
namespace Tr
theorem wide_fnA (f : FuncId) : Fence.wide.fn f = True := rfl
attribute [local simp] wide_fnA
attribute [local go_sem] node_same

/-- What last tells, as a number. -/
def LastI (P : List Nat) (N : Nat → Nd) (r : Int) : Prop := r = -1 ∨ ∃ i b : Nat, r = (i : Int) ∧ P[i]? = some b ∧ (N b).size ≤ 4000
theorem LastR.int {P : List Nat} {N : Nat → Nd} {e : Ending} (h : LastR P N e) : ∃ r, e = .returned (.int .i64 r) ∧ LastI P N r := by
  rcases h with h | ⟨i, b, h, h1, h2⟩
  · exact ⟨_, h, Or.inl rfl⟩
  · exact ⟨_, h, Or.inr ⟨i, b, rfl, h1, h2⟩⟩
theorem IntsA.upA {A A' : Nat} {w : World} {v : Value} {xs : List Int} (h : IntsA A w v xs) (hA : A ≤ A') : IntsA A' w v xs := by
  obtain ⟨a, cap, h1, h2, h3, h4⟩ := h
  refine ⟨a, cap, h1, h2, h3, ?_⟩
  rcases h4 with h4 | ⟨c, o, h5, h6, h7⟩
  · exact Or.inl h4
  · exact Or.inr ⟨c, o, h5, by omega, h7⟩
theorem ScriptA.upA {A A' : Nat} {w : World} {v : Value} {l : List StepM} (h : ScriptA A w v l) (hA : A ≤ A') : ScriptA A' w v l := by
  obtain ⟨a, cap, h1, h2, h3, h4⟩ := h
  refine ⟨a, cap, h1, h2, h3, ?_⟩
  rcases h4 with h4 | ⟨c, o, h5, h6, h7⟩
  · exact Or.inl h4
  · refine Or.inr ⟨c, o, h5, by omega, fun i x hx => ?_⟩
    obtain ⟨kv, h8, h9⟩ := h7 i x hx
    exact ⟨kv, h8.upA hA, h9⟩

def PtG (rc bx bc : Nat) (ds : List Deferred) (a : Act) : Prop := ∃ T : Nat → Value, a = { tmps := List.toArray (T 0 :: T 1 :: (.pointer (some ⟨rc, 0, none⟩)) :: T 3 :: T 4 :: T 5 :: (.pointer (some ⟨bx, 0, none⟩)) :: (.pointer (some ⟨bc, 0, none⟩)) :: (.pointer (some ⟨bc + 1, 0, none⟩)) :: T 9 :: T 10 :: T 11 :: T 12 :: T 13 :: T 14 :: T 15 :: T 16 :: T 17 :: T 18 :: T 19 :: T 20 :: T 21 :: T 22 :: T 23 :: T 24 :: T 25 :: T 26 :: T 27 :: T 28 :: T 29 :: T 30 :: T 31 :: T 32 :: T 33 :: T 34 :: T 35 :: T 36 :: T 37 :: T 38 :: T 39 :: T 40 :: T 41 :: T 42 :: T 43 :: T 44 :: T 45 :: T 46 :: T 47 :: T 48 :: T 49 :: T 50 :: T 51 :: T 52 :: T 53 :: T 54 :: (.func (.func 36) #[] #[.pointer (some ⟨bc + 1 + 1, 0, none⟩)]) :: T 56 :: T 57 :: T 58 :: T 59 :: T 60 :: T 61 :: T 62 :: T 63 :: T 64 :: T 65 :: T 66 :: T 67 :: T 68 :: T 69 :: T 70 :: T 71 :: T 72 :: T 73 :: T 74 :: T 75 :: T 76 :: T 77 :: T 78 :: T 79 :: T 80 :: T 81 :: T 82 :: T 83 :: T 84 :: T 85 :: T 86 :: T 87 :: T 88 :: T 89 :: T 90 :: T 91 :: T 92 :: T 93 :: T 94 :: T 95 :: T 96 :: T 97 :: T 98 :: T 99 :: T 100 :: T 101 :: T 102 :: T 103 :: T 104 :: T 105 :: T 106 :: T 107 :: T 108 :: T 109 :: T 110 :: T 111 :: T 112 :: T 113 :: T 114 :: T 115 :: T 116 :: T 117 :: T 118 :: T 119 :: T 120 :: T 121 :: T 122 :: T 123 :: T 124 :: T 125 :: T 126 :: T 127 :: T 128 :: T 129 :: T 130 :: T 131 :: T 132 :: T 133 :: T 134 :: T 135 :: T 136 :: T 137 :: T 138 :: T 139 :: T 140 :: T 141 :: T 142 :: T 143 :: T 144 :: T 145 :: T 146 :: T 147 :: T 148 :: T 149 :: T 150 :: T 151 :: T 152 :: T 153 :: T 154 :: T 155 :: T 156 :: T 157 :: T 158 :: T 159 :: T 160 :: T 161 :: T 162 :: T 163 :: T 164 :: T 165 :: T 166 :: T 167 :: T 168 :: T 169 :: T 170 :: T 171 :: T 172 :: T 173 :: T 174 :: T 175 :: T 176 :: T 177 :: T 178 :: T 179 :: T 180 :: T 181 :: T 182 :: T 183 :: T 184 :: T 185 :: T 186 :: T 187 :: []), defers := ds }
theorem ptG_of {rc bx bc : Nat} {ds : List Deferred} (L : List Value) (h : L = nthV L 0 :: nthV L 1 :: (.pointer (some ⟨rc, 0, none⟩)) :: nthV L 3 :: nthV L 4 :: nthV L 5 :: (.pointer (some ⟨bx, 0, none⟩)) :: (.pointer (some ⟨bc, 0, none⟩)) :: (.pointer (some ⟨bc + 1, 0, none⟩)) :: nthV L 9 :: nthV L 10 :: nthV L 11 :: nthV L 12 :: nthV L 13 :: nthV L 14 :: nthV L 15 :: nthV L 16 :: nthV L 17 :: nthV L 18 :: nthV L 19 :: nthV L 20 :: nthV L 21 :: nthV L 22 :: nthV L 23 :: nthV L 24 :: nthV L 25 :: nthV L 26 :: nthV L 27 :: nthV L 28 :: nthV L 29 :: nthV L 30 :: nthV L 31 :: nthV L 32 :: nthV L 33 :: nthV L 34 :: nthV L 35 :: nthV L 36 :: nthV L 37 :: nthV L 38 :: nthV L 39 :: nthV L 40 :: nthV L 41 :: nthV L 42 :: nthV L 43 :: nthV L 44 :: nthV L 45 :: nthV L 46 :: nthV L 47 :: nthV L 48 :: nthV L 49 :: nthV L 50 :: nthV L 51 :: nthV L 52 :: nthV L 53 :: nthV L 54 :: (.func (.func 36) #[] #[.pointer (some ⟨bc + 1 + 1, 0, none⟩)]) :: nthV L 56 :: nthV L 57 :: nthV L 58 :: nthV L 59 :: nthV L 60 :: nthV L 61 :: nthV L 62 :: nthV L 63 :: nthV L 64 :: nthV L 65 :: nthV L 66 :: nthV L 67 :: nthV L 68 :: nthV L 69 :: nthV L 70 :: nthV L 71 :: nthV L 72 :: nthV L 73 :: nthV L 74 :: nthV L 75 :: nthV L 76 :: nthV L 77 :: nthV L 78 :: nthV L 79 :: nthV L 80 :: nthV L 81 :: nthV L 82 :: nthV L 83 :: nthV L 84 :: nthV L 85 :: nthV L 86 :: nthV L 87 :: nthV L 88 :: nthV L 89 :: nthV L 90 :: nthV L 91 :: nthV L 92 :: nthV L 93 :: nthV L 94 :: nthV L 95 :: nthV L 96 :: nthV L 97 :: nthV L 98 :: nthV L 99 :: nthV L 100 :: nthV L 101 :: nthV L 102 :: nthV L 103 :: nthV L 104 :: nthV L 105 :: nthV L 106 :: nthV L 107 :: nthV L 108 :: nthV L 109 :: nthV L 110 :: nthV L 111 :: nthV L 112 :: nthV L 113 :: nthV L 114 :: nthV L 115 :: nthV L 116 :: nthV L 117 :: nthV L 118 :: nthV L 119 :: nthV L 120 :: nthV L 121 :: nthV L 122 :: nthV L 123 :: nthV L 124 :: nthV L 125 :: nthV L 126 :: nthV L 127 :: nthV L 128 :: nthV L 129 :: nthV L 130 :: nthV L 131 :: nthV L 132 :: nthV L 133 :: nthV L 134 :: nthV L 135 :: nthV L 136 :: nthV L 137 :: nthV L 138 :: nthV L 139 :: nthV L 140 :: nthV L 141 :: nthV L 142 :: nthV L 143 :: nthV L 144 :: nthV L 145 :: nthV L 146 :: nthV L 147 :: nthV L 148 :: nthV L 149 :: nthV L 150 :: nthV L 151 :: nthV L 152 :: nthV L 153 :: nthV L 154 :: nthV L 155 :: nthV L 156 :: nthV L 157 :: nthV L 158 :: nthV L 159 :: nthV L 160 :: nthV L 161 :: nthV L 162 :: nthV L 163 :: nthV L 164 :: nthV L 165 :: nthV L 166 :: nthV L 167 :: nthV L 168 :: nthV L 169 :: nthV L 170 :: nthV L 171 :: nthV L 172 :: nthV L 173 :: nthV L 174 :: nthV L 175 :: nthV L 176 :: nthV L 177 :: nthV L 178 :: nthV L 179 :: nthV L 180 :: nthV L 181 :: nthV L 182 :: nthV L 183 :: nthV L 184 :: nthV L 185 :: nthV L 186 :: nthV L 187 :: []) : PtG rc bx bc ds { tmps := L.toArray, defers := ds } := ⟨fun k => nthV L k, by rw [← h]⟩
theorem boxB_of {w : World} {b : Nat} {v : Value} {t : TypeId} (h : w.heap[b]? = some (.cells #[v] t (0, 0))) : w.cell? ⟨b, 0, none⟩ = some v ∧ w.frozen? ⟨b, 0, none⟩ = false ∧ b < w.heap.size := ⟨by simp [World.cell?, h], by simp [World.frozen?, h], (Array.getElem?_eq_some_iff.1 h).1⟩

set_option linter.unusedSimpArgs false in
set_option maxRecDepth 100000 in
set_option maxHeartbeats 8000000 in
theorem law_paths (v : Value) (l : List StepM) (w : World) (hS : ScriptA w.heap.size w v l) : Calls Try.prog 4 #[v] w fun e w' => e = .returned (.bool true) ∧ Kept w w' := by
  refine (callsIn_wide (n := 3)).1 ?_
  refine callsIn_of_wp_marks Try.func4 rfl trivial ?_ rfl
  simp only [Try.ntmps4, List.size_toArray, List.length_cons, List.length_nil, Nat.reduceAdd, Nat.reduceSub, Array.replicate_succ, Array.replicate_zero, List.push_toArray, List.append_toArray, List.nil_append, List.cons_append]
  refine (wpIn_wide (n := 3)).2 ?_
  obtain ⟨wZ, hwZ⟩ : ∃ wZ, w.alloc (.cells #[.bool false] 4) = wZ := ⟨_, rfl⟩
  have HKZ : Hid (Kept w wZ) := by rw [← hwZ]; exact (Kept.refl w).alloc _ _
  have HBZ : Hid (wZ.heap[w.heap.size]? = some (.cells #[.bool false] 4 (0, 0))) := by rw [← hwZ]; exact World.alloc_heap_new w _
  have HSZ : Hid (w.heap.size + 1 = wZ.heap.size) := by rw [← hwZ]; show _ = _; simp
  have HSC : Hid (ScriptA wZ.heap.size wZ v l) := (hS.ka (HKZ.out.ka (Nat.le_refl _))).upA HKZ.out.size
  have hl : l.length ≤ 1048576 := hS.choose_spec.choose_spec.2.2.1
  clear hS
  go_upto_region 4 with (go_at_call 8; refine (grown_is v l wZ HSC.out).mono ?_; rintro e w1 ⟨base, fb, s0, s1, rfl, hF1, hk1, _, _, _⟩; have HF1 := hide1 hF1; have HK1 := hide1 hk1; clear hF1 hk1)
  obtain ⟨V, P, Q, N, X, m0, m1, vP, vR, vB, hM, hT, hP⟩ := HF1.out
  have HM := hide1 hM
  have HT := hide1 hT
  have HB1 : Hid (w1.heap[w.heap.size]? = some (.cells #[.bool false] 4 (0, 0))) := (HK1.out.2.2.2.2 w.heap.size (by have := HSZ.out; omega)).trans HBZ.out
  have c1 : w1.cell? ⟨w.heap.size, 0, none⟩ = some (.bool false) := by simp [World.cell?, HB1.out]
  have f1 : w1.frozen? ⟨w.heap.size, 0, none⟩ = false := by simp [World.frozen?, HB1.out]
  have HLAST := hide1 (last_is base fb s0 s1 V P Q N X m0 m1 vP vR vB w1 hM hT (by omega))
  clear hM hT hwZ HF1
  go_upto_region 5 with (go_at_call 9; refine HLAST.out.mono ?_; rintro e w2 ⟨hw2, hl2⟩; have hw2 := hw2.symm; subst hw2; obtain ⟨r, rfl, hr⟩ := hl2.int; have HR := hide1 hr; clear hl2 hr)
  have HRC := hide1 (rc_end (gtrans HKZ.out HK1.out) (Nat.le_refl _) HB1.out)
  have hrcl : w.heap.size < w1.heap.size := (Array.getElem?_eq_some_iff.1 HB1.out).1
  rcases HR.out with hr | ⟨i, b, hr, hi, hb⟩
  · subst hr
    go_wp2_with fail
    obtain ⟨h1, h2⟩ := HRC.out
    exact ⟨_, results_bool rfl _ _ w.heap.size (.bool true) rfl (by simp [World.cell?, h2]), rfl, h1⟩
  · subst hr
    have hbm : b ∈ P := List.mem_of_getElem? hi
    obtain ⟨gp, cp, rfl, _, cP⟩ := HM.out.2.2.2.1.cell hi
    have c2 : w1.cell? ⟨fb, 2, none⟩ = some (.slice (some ⟨gp, 0, none⟩) P.length cp) := by simp [World.cell?, HM.out.1]
    have hiP := (List.getElem?_eq_some_iff.1 hi).1
    have hiI : (i : Int) < (P.length : Int) := by omega
    obtain ⟨d, hd⟩ : ∃ d, Q[i]? = some d := ⟨_, List.getElem?_eq_getElem (by rw [← HT.out.1]; exact hiP)⟩
    obtain ⟨gq, cq, hvR, _, cQ⟩ := HM.out.2.2.2.2.1.cell hd
    subst hvR
    have c3 : w1.cell? ⟨fb, 3, none⟩ = some (.slice (some ⟨gq, 0, none⟩) Q.length cq) := by simp [World.cell?, HM.out.1]
    rw [← HT.out.1] at c3
    have hcd := ((HM.out.2.2.2.2.2.2.2.2.2.2.2 d (List.mem_of_getElem? hd)).is (fun k hk => (HM.out.2.2.2.2.2.2.2.2.2.1 k hk).2.1)).cells.2.2.2
    have hsz := (HT.out.2.2.2.1 i b d hi hd).2.1
    rw [← hsz] at hcd
    have HFO := hide1 (forest_of HM.out HT.out)
    have HFW := hide1 (fwid_of HT.out)
    obtain ⟨n, hn⟩ : ∃ n, (N b).size = n := ⟨_, rfl⟩
    rw [hn] at hb hcd
    have HN := hide1 hn
    have hbI : (n : Int) ≤ 4000 := by omega
    clear hi hd hn hsz HR HLAST
    by_cases hbig : 300 < n
    · have hgI : (300 : Int) < (n : Int) := by omega
      go_wp2_with fail
      obtain ⟨h1, h2⟩ := HRC.out
      exact ⟨_, results_bool rfl _ _ w.heap.size (.bool true) rfl (by simp [World.cell?, h2]), rfl, h1⟩
    · have hgI : ¬ (300 : Int) < (n : Int) := by omega
      have hn3 : n ≤ 300 := by omega
      clear hbig HRC
      go_wp2_with fail
      refine (curZ_new (fun _ => False) (w1.alloc (.cells #[.pointer (some ⟨b, 0, none⟩)] 45)) b _ (Kept.refl _) (fun _ h => h.elim)).mono ?_
      rintro e w2 ⟨rfl, hk2, hcz⟩
      obtain ⟨wX, hwX⟩ : ∃ wX, w1.alloc (.cells #[.pointer (some ⟨b, 0, none⟩)] 45) = wX := ⟨_, rfl⟩
      have hkX : Kept w1 wX := by rw [← hwX]; exact (Kept.refl w1).alloc _ _
      have hsX : wX.heap.size = w1.heap.size + 1 := by rw [← hwX]; simp
      have hxX : wX.heap[w1.heap.size]? = some (.cells #[.pointer (some ⟨b, 0, none⟩)] 45 (0, 0)) := by rw [← hwX]; exact World.alloc_heap_new w1 _
      rw [hwX] at hk2 hcz ⊢
      have HKX := hide1 hkX
      have HXX := hide1 hxX
      have HK2 := hide1 hk2
      have HCZ := hide1 hcz
      have HSX := hide1 hsX
      have hCl : wX.heap.size + 1 < w2.heap.size := by obtain ⟨_, _, _, wv, h4, _⟩ := hcz; exact h4.lt
      obtain ⟨C, hC⟩ : ∃ C, wX.heap.size + 1 = C := ⟨_, rfl⟩
      rw [hC] at HCZ hCl
      have HCE := hide1 hC
      rw [hC]
      clear hkX hsX hxX hk2 hcz hwX hC c2 c3 cP cQ hcd c1 f1
      have hk4 : Kept w2 ((w2.alloc (.cells #[.pointer (some ⟨C, 0, none⟩)] 46)).alloc (.cells #[.bool false] 4)) := ((Kept.refl w2).alloc _ _).alloc _ _
      have x2 : w2.cell? ⟨w1.heap.size, 0, none⟩ = some (.pointer (some ⟨b, 0, none⟩)) := grown_cell HK2.out (by simp [World.cell?, HXX.out])
      have x4 := grown_cell hk4 x2
      have kfn := fun (ups : Array Value) (W : World) => func_nil 36 ups W
      go_wp2_with (go_at_call 13; refine (walk_is _ _).mono ?_; rintro e w5 ⟨rfl, hw5⟩; have HW5 := hide1 hw5; clear hw5)
      obtain ⟨bc, hbc⟩ : ∃ bc, w2.heap.size = bc := ⟨_, rfl⟩
      obtain ⟨w3, hw3⟩ : ∃ w3, w2.alloc (.cells #[.pointer (some ⟨C, 0, none⟩)] 46) = w3 := ⟨_, rfl⟩
      obtain ⟨w4, hw4⟩ : ∃ w4, w3.alloc (.cells #[.bool false] 4) = w4 := ⟨_, rfl⟩
      rw [hw3, hw4] at HW5
      have hs3 : w3.heap.size = bc + 1 := by rw [← hw3, ← hbc]; simp
      have hs4 : w4.heap.size = bc + 2 := by rw [← hw4]; simp [hs3]
      have hs5 : w5.heap.size = bc + 3 := by rw [HW5.out]; simp [hs4]
      have hk23 : Kept w2 w3 := by rw [← hw3]; exact (Kept.refl w2).alloc _ _
      have hk34 : Kept w3 w4 := by rw [← hw4]; exact (Kept.refl w3).alloc _ _
      have hk45 : Kept w4 w5 := by rw [HW5.out]; exact (Kept.refl w4).alloc _ _
      have HBC : Hid (w5.heap[bc]? = some (.cells #[.pointer (some ⟨C, 0, none⟩)] 46 (0, 0))) := ((gtrans hk34 hk45).2.2.2.2 bc (by omega)).trans (by rw [← hw3, ← hbc]; exact World.alloc_heap_new w2 _)
      have HBD : Hid (w5.heap[bc + 1]? = some (.cells #[.bool false] 4 (0, 0))) := (hk45.2.2.2.2 (bc + 1) (by omega)).trans (by rw [← hw4, ← hs3]; exact World.alloc_heap_new w3 _)
      have HBR : Hid (w5.heap[bc + 2]? = some (.cells #[.pointer (some ⟨b, 0, none⟩)] 45 (0, 0))) := by rw [HW5.out, ← hs4]; exact World.alloc_heap_new w4 _
      have HK25 : Hid (Kept w2 w5) := gtrans hk23 (gtrans hk34 hk45)
      obtain ⟨rc, hrc⟩ : ∃ rc, w.heap.size = rc := ⟨_, rfl⟩
      obtain ⟨bx, hbx⟩ : ∃ bx, w1.heap.size = bx := ⟨_, rfl⟩
      have HRCE := hide1 hrc
      have HBXE := hide1 hbx
      have HX5 : Hid (Kept wX w5) := gtrans HK2.out HK25.out
      have HF5 : Hid (Forest (fun b => b ∈ P) N w1.heap.size w5) := HFO.out.kb ((gtrans HKX.out HX5.out).kb (Nat.le_refl _))
      have HFX : Hid (Forest (fun b => b ∈ P) N w1.heap.size wX) := HFO.out.kb (HKX.out.kb (Nat.le_refl _))
      have h15 : w1.heap.size ≤ w5.heap.size := (gtrans HKX.out HX5.out).size
      have hbX : wX.heap.size ≤ bc := by have := HK2.out.size; omega
      have HSEQ := hide1 (walk_seq 2 (by omega) (fun b => b ∈ P) N w1.heap.size (bc + 1 + 1) b w5 HF5.out hbm h15 (by omega) (boxB_of HBR.out).1)
      obtain ⟨xs, hxs⟩ : ∃ xs, wl N (N b).size [b] 0 = xs := ⟨_, rfl⟩
      rw [hxs] at HSEQ
      have HI0 : Hid (PtI (fun b => b ∈ P) N wX w5 C bc b xs (fun _ => False) [] w5) := by
        refine ⟨fun _ h => h.elim, Nat.le_refl _, [(b, 0, 0)], false, HCZ.out.more HK25.out ?_, path_one hbm, Or.inr ⟨rfl, [], (b, 0, 0), rfl, ?_⟩, HBD.out, rfl, rfl⟩
        · rintro k (h | h)
          · exact h.elim
          · right
            omega
        · rw [← hxs]
          simp [restW, sizeS]
      have HXS := hide1 hxs
      rw [hbc]
      refine frame_toA (ptG_of (rc := w.heap.size) (bx := w1.heap.size) (bc := bc) _ (by kernel_rfl)) ?_
      rintro a' ⟨T, rfl⟩
      clear hxs hrc hbx
      refine (wpIn_wide (n := 3)).1 ?_
      refine range_W rfl (by omega) (gf := 36) (lb := #[.pointer (some ⟨bc + 1 + 1, 0, none⟩)]) rfl trivial (enters_of Try.func36 (by kernel_rfl) rfl) HSEQ.out ?kp KX.trans (fun _ => rfl)
        (PtI (fun b => b ∈ P) N wX w5 C bc b xs) (fun _ _ _ => False) (PtI.stable (by omega) hbX) (fun _ _ _ _ _ h _ _ => h) HI0.out
        (fun x => { tmps := List.toArray (T 0 :: T 1 :: (.pointer (some ⟨w.heap.size, 0, none⟩)) :: T 3 :: T 4 :: T 5 :: (.pointer (some ⟨w1.heap.size, 0, none⟩)) :: (.pointer (some ⟨bc, 0, none⟩)) :: (.pointer (some ⟨bc + 1, 0, none⟩)) :: T 9 :: (.int .i64 (x.1 : Int)) :: (.pointer (some ⟨x.2, 0, none⟩)) :: T 12 :: T 13 :: T 14 :: T 15 :: T 16 :: T 17 :: T 18 :: T 19 :: T 20 :: T 21 :: T 22 :: T 23 :: T 24 :: T 25 :: T 26 :: T 27 :: T 28 :: T 29 :: T 30 :: T 31 :: T 32 :: T 33 :: T 34 :: T 35 :: T 36 :: T 37 :: T 38 :: T 39 :: T 40 :: T 41 :: T 42 :: T 43 :: T 44 :: T 45 :: T 46 :: T 47 :: T 48 :: T 49 :: T 50 :: T 51 :: T 52 :: T 53 :: T 54 :: (.func (.func 36) #[] #[.pointer (some ⟨bc + 1 + 1, 0, none⟩)]) :: (.int .i64 (x.1 : Int)) :: (.pointer (some ⟨x.2, 0, none⟩)) :: T 58 :: T 59 :: T 60 :: T 61 :: T 62 :: T 63 :: T 64 :: T 65 :: T 66 :: T 67 :: T 68 :: T 69 :: T 70 :: T 71 :: T 72 :: T 73 :: T 74 :: T 75 :: T 76 :: T 77 :: T 78 :: T 79 :: T 80 :: T 81 :: T 82 :: T 83 :: T 84 :: T 85 :: T 86 :: T 87 :: T 88 :: T 89 :: T 90 :: T 91 :: T 92 :: T 93 :: T 94 :: T 95 :: T 96 :: T 97 :: T 98 :: T 99 :: T 100 :: T 101 :: T 102 :: T 103 :: T 104 :: T 105 :: T 106 :: T 107 :: T 108 :: T 109 :: T 110 :: T 111 :: T 112 :: T 113 :: T 114 :: T 115 :: T 116 :: T 117 :: T 118 :: T 119 :: T 120 :: T 121 :: T 122 :: T 123 :: T 124 :: T 125 :: T 126 :: T 127 :: T 128 :: T 129 :: T 130 :: T 131 :: T 132 :: T 133 :: T 134 :: T 135 :: T 136 :: T 137 :: T 138 :: T 139 :: T 140 :: T 141 :: T 142 :: T 143 :: T 144 :: T 145 :: T 146 :: T 147 :: T 148 :: T 149 :: T 150 :: T 151 :: T 152 :: T 153 :: T 154 :: T 155 :: T 156 :: T 157 :: T 158 :: T 159 :: T 160 :: T 161 :: T 162 :: T 163 :: T 164 :: T 165 :: T 166 :: T 167 :: T 168 :: T 169 :: T 170 :: T 171 :: T 172 :: T 173 :: T 174 :: T 175 :: T 176 :: T 177 :: T 178 :: T 179 :: T 180 :: T 181 :: T 182 :: T 183 :: T 184 :: T 185 :: T 186 :: T 187 :: []), defers := [] })
        ?assign ?body ?done ?stop
      case kp => exact fun A A' h1 h2 h3 => ⟨h2, fun q hq => h3 q (by omega)⟩
      case assign =>
        intro l x W K hK
        have HK := hide1 hK
        clear hK
        dsimp only [encW]
        gi_wp2
        exact HK.out
      case stop =>
        intro D c pre0 W hD _ h
        exact h.elim
      case done =>
        rintro D TT W hD ⟨g1, g0, wy, dn, hcz, hpo, hbt, gd, gc, gr⟩ hdef hTb hT0 hT1
        have hdn : dn = true := by
          rcases hbt with ⟨h, _⟩ | ⟨_, py, q, rfl, h⟩
          · exact h
          · have hq : q.1 ∈ P := hpo.2.1 q (by simp)
            have h2 := congrArg List.length h
            rw [wl_step HF5.out hq] at h2
            simp at h2
        subst hdn
        obtain ⟨ld, zd, bd⟩ := boxB_of gd
        have hkw : Kept w W := gtrans (gtrans (gtrans HKZ.out HK1.out) HKX.out) hcz.1
        have hrc9 : W.heap[w.heap.size]? = some (.cells #[.bool false] 4 (0, 0)) := ((gtrans HKX.out hcz.1).2.2.2.2 w.heap.size hrcl).trans HB1.out
        obtain ⟨rr, rz, rl⟩ := boxB_of hrc9
        have HRC9 := hide1 hrc9
        have HKW := hide1 hkw
        have HDE := hide1 hdef
        have hDne : D ≠ w.heap.size := by
          have := HK1.out.size
          omega
        clear g1 g0 hcz hpo hbt gd gc gr hdef hTb hT0 hT1 hrc9 hkw
        dsimp only
        go_wp2_with fail
        obtain ⟨h1, h2⟩ := rc_end HKW.out (Nat.le_refl _) HRC9.out
        refine leaves_marksA [D] _ (by simp) (fun D' hD' => ?_) (fun W' e1 e2 e3 e4 e5 => ?_)
        · have e : D' = D := by simpa using hD'
          rw [e]
          exact (Below.heap_setCell _ _ _ _ hDne).trans HDE.out
        · have hr' : W'.heap[w.heap.size]? = some (.cells #[.bool true] 4 (0, 0)) := (e5 w.heap.size (by simpa using fun h => hDne h.symm)).trans h2
          refine ⟨_, results_bool rfl _ _ w.heap.size (.bool true) rfl (by simp [World.cell?, hr']), rfl, ?_⟩
          refine ⟨e1.trans h1.1, e2.trans h1.2.1, e3.trans h1.2.2.1, by rw [e4]; exact h1.size, fun q hq => (e5 q ?_).trans (h1.2.2.2.2 q hq)⟩
          intro hm
          have e : q = D := by simpa using hm
          omega
      case body =>
        rintro TT pre x W ⟨g1, g0, wy, dn, hcz, hpo, hbt, gd, gc, gr⟩ hpre hTb hT0 hT1 hsz ⟨lr, hlr0, hlr⟩
        obtain ⟨hdn, py, q, hwy, hq1, hq2, hxs2⟩ := hbt.here HF5.out hpo hpre
        subst hdn
        subst hwy
        obtain ⟨at9, nb⟩ := x
        obtain ⟨qb, qa, qi⟩ := q
        dsimp only at hq1 hq2 hxs2
        subst hq1
        subst hq2
        have hpyl : py.length ≤ 300 := by
          have h1 := (path_bounds HF5.out HFW.out hpo py.length (qb, qa, qi) (by simp)).1
          dsimp only at h1
          have h2 := HN.out
          omega
        have hqP : qb ∈ P := hpo.2.1 (qb, qa, qi) (by simp)
        obtain ⟨lc, _, _⟩ := boxB_of (gc.trans HBC.out)
        obtain ⟨ld, zd, bd⟩ := boxB_of gd
        have lx : W.cell? ⟨w1.heap.size, 0, none⟩ = some (.pointer (some ⟨b, 0, none⟩)) := grown_cell hcz.1 (boxB_of HXX.out).1
        have HCW := hide1 hcz
        have HPO := hide1 hpo
        have HX2 := hide1 hxs2
        have HG := hide1 (And.intro g1 (And.intro g0 (And.intro gd (And.intro gc gr))))
        have HTB := hide1 hTb
        clear g1 g0 hcz hpo hbt gd gc gr hpre hTb hT0 hT1 hxs2 hlr hlr0
        dsimp only
        gi_upto_region 20 with (first | (gi_at_call 14; refine (CallsIn.inRound _ (callsIn_wide.2 (HCW.out.toP.node (by omega)))).mono ?_; rintro e w6 ⟨rfl, hk6⟩; have HK6 := hide1 hk6; have lc6 := grown_cell hk6 lc; have lx6 := grown_cell hk6 lx; clear hk6) | (gi_at_call 15; refine (CallsIn.inRound _ (callsIn_wide.2 ((HCW.out.keep HK6.out).toP.offset (by omega)))).mono ?_; rintro e w7 ⟨rfl, hk7⟩; have HK7 := hide1 hk7; have lc7 := grown_cell hk7 lc6; have lx7 := grown_cell hk7 lx6; clear hk7))
        obtain ⟨q0, ys, hq0⟩ : ∃ q0 ys, py ++ [(qb, qa, qi)] = q0 :: ys := by
          cases py with
          | nil => exact ⟨_, _, rfl⟩
          | cons a l => exact ⟨_, _, rfl⟩
        have hqt : q0 = (b, 0, 0) := by
          have h := HPO.out.1
          rw [hq0] at h
          simpa using h
        subst hqt
        obtain ⟨m, hm⟩ : ∃ m, ys.length = m := ⟨_, rfl⟩
        have hmy : py.length = m := by
          have := congrArg List.length hq0
          simp at this
          omega
        have hm3 : m ≤ 300 := by omega
        have hmI : (m : Int) ≤ 300 := by omega
        obtain ⟨ps, hps⟩ : ∃ ps, (ys.map fun q => q.2.2) = ps := ⟨_, rfl⟩
        have hpsl : ps.length = m := by rw [← hps, List.length_map, hm]
        have HC7 : Hid (CurZ (Zp TT wX.heap.size bc) wX w7 C (py ++ [(qb, qa, qi)])) := (HCW.out.keep HK6.out).keep HK7.out
        obtain ⟨D, hD⟩ : ∃ D, w7.heap.size + 1 = D := ⟨_, rfl⟩
        have HPA := hide1 (fun (w8 : World) (hk8 : Kept w7 w8) => by
          have h := HC7.out.keep hk8
          rw [hq0] at h
          have h2 := h.pathO (by omega)
          rw [hps] at h2
          exact h2)
        have HQ0 := hide1 hq0
        have HPS := hide1 hps
        have HPL := hide1 hpsl
        have HM9 := hide1 hm
        have HMY := hide1 hmy
        have HD := hide1 hD
        clear hq0 hps hpsl hm hmy hD lc6 lx6
        gi_upto_region 24 with (first | (gi_at_call 12; refine (CallsIn.inRound _ (callsIn_wide.2 (curZ_new (fun _ => False) w7 b w7 (Kept.refl _) (fun _ h => h.elim)))).mono ?_; rintro e w8 ⟨rfl, hk8, hcd⟩; rw [HD.out] at hcd ⊢; have HK8 := hide1 hk8; have HCD := hide1 hcd; have lc8 := grown_cell hk8 lc7; clear hk8 hcd) | (gi_at_call 16; refine (CallsIn.inRound _ (callsIn_wide.2 (HPA.out w8 HK8.out))).mono ?_; rintro e w9 ⟨⟨pv, rfl, hpv⟩, hk9⟩; obtain ⟨pa, pc, hpf⟩ := hpv.form; rw [HPL.out] at hpf; subst hpf; have HPV := hide1 hpv; have HK9 := hide1 hk9; clear hpv hk9))
        obtain ⟨Zd, hZd⟩ : ∃ Zd : Nat → Prop, (fun k => k < w7.heap.size ∨ (w8.heap.size ≤ k ∧ k < w9.heap.size)) = Zd := ⟨_, rfl⟩
        obtain ⟨wy, hwy⟩ : ∃ wy, py ++ [(qb, qa, qi)] = wy := ⟨_, rfl⟩
        have HL0 : Hid (CurZ Zd w7 w9 D (wy.take (0 + 1)) ∧ KX Zd w9 w9) := by
          refine ⟨?_, Nat.le_refl _, fun _ _ => rfl⟩
          rw [← hwy, HQ0.out]
          refine HCD.out.more HK9.out (fun k hk => ?_)
          rw [← hZd] at hk
          rcases hk with hk | hk
          · exact Or.inr (Or.inl hk)
          · exact Or.inr (Or.inr hk.1)
        have HZD : Hid (∀ k, Zd k ↔ (k < w7.heap.size ∨ (w8.heap.size ≤ k ∧ k < w9.heap.size))) := by
          intro k
          rw [← hZd]
        have HWY := hide1 hwy
        have HPW : Hid (PathOk (fun b => b ∈ P) N b wy) := by rw [← hwy]; exact HPO.out
        have HZL : Hid (∀ wr : World, KX Zd w9 wr → ∀ k, Zd k → k < wr.heap.size) := by
          intro wr hk k hz
          have h1 := (HZD.out k).1 hz
          have h2 := HK8.out.size
          have h3 := HK9.out.size
          have h4 := hk.1
          omega
        have HF7 : Hid (Forest (fun b => b ∈ P) N w1.heap.size w7) := HFX.out.kb ((gtrans (gtrans HCW.out.1 HK6.out) HK7.out).kb (by have := HSX.out; omega))
        have h17 : w1.heap.size ≤ w7.heap.size := by
          have := (gtrans (gtrans HCW.out.1 HK6.out) HK7.out).size
          have := HSX.out
          omega
        clear hZd hwy
        gi_wp2_with fail
        gi_loopw [14] (fun vk wr => ∃ k : Nat, k ≤ m ∧ vk = .int .i64 (k : Int) ∧ Hid (CurZ Zd w7 wr D (wy.take (k + 1)) ∧ KX Zd w9 wr)) (fun vk _ => m - (intOf vk).toNat)
        case atStart => exact ⟨0, Nat.zero_le _, rfl, HL0⟩
        case round =>
          obtain ⟨k, hk, rfl, HJ⟩ := hrel
          clear HL0
          by_cases hlt : k < m
          · obtain ⟨q1, hq1⟩ : ∃ q1, wy[k + 1]? = some q1 := ⟨_, List.getElem?_eq_getElem (by rw [← HWY.out, HQ0.out, List.length_cons, HM9.out]; omega)⟩
            have hpk : ps[k]? = some q1.2.2 := by
              rw [← HPS.out, List.getElem?_map]
              rw [← HWY.out, HQ0.out, List.getElem?_cons_succ] at hq1
              rw [hq1]
              rfl
            obtain ⟨g, cap, e1, h1, h2, h3⟩ := HPV.out.at hpk
            rw [HPL.out] at e1
            injection e1 with e1 _ e3
            subst e1
            have hcell := HJ.out.2.cell ((HZD.out g).2 (Or.inr ⟨h1, h2⟩)) h3
            have hkI : (k : Int) < (m : Int) := by omega
            have HFO9 := hide1 (HJ.out.1.follow (HZL.out wr HJ.out.2) HF7.out h17 HFW.out HPW.out hq1)
            obtain ⟨qv, hqv⟩ : ∃ qv, q1.2.2 = qv := ⟨_, rfl⟩
            rw [hqv] at hcell HFO9
            clear hq1 hpk h1 h2 h3 e3 hqv
            gi_wp2_with (gi_at_call 17; refine (CallsIn.inRound _ (callsIn_wide.2 HFO9.out)).mono ?_; rintro e w10 ⟨rfl, hc10, hk10⟩; have HC10 := hide1 hc10; have HX10 := hide1 hk10; clear hc10 hk10)
            go_roundw
            case rel => exact ⟨k + 1, by omega, by go_num, HC10.out, HJ.out.2.trans HX10.out⟩
            case measure => simp [intOf]; omega
          · have hkm : k = m := by omega
            have hkI : ¬ (k : Int) < (m : Int) := by omega
            have HDR : Hid (CurZ Zd w7 wr D (py ++ [(qb, qa, qi)])) := by
              have h := HJ.out.1
              rw [hkm, List.take_of_length_le (by rw [← HWY.out, HQ0.out, List.length_cons, HM9.out]; omega), ← HWY.out] at h
              exact h
            have HPR : Hid (PathO wr w8.heap.size (.slice pa m pc) ps) := HPV.out.kx HJ.out.2 (fun g h1 h2 => (HZD.out g).2 (Or.inr ⟨h1, h2⟩))
            have HXR : Hid (KX Zd w9 wr) := HJ.out.2
            have HPB := hide1 (fun (w : World) (hk : Kept wr w) => by
              have h := HDR.out.keep hk
              rw [HQ0.out] at h
              have h2 := h.pathO (by have := HM9.out; omega)
              rw [HPS.out] at h2
              exact h2)
            have HMYL := HMY.out
            clear hkm HJ hlt hk
            gi_upto_region 29 with fail
            gi_cut [122] from 123 (fun v wx => v = .bool false ∧ Hid (CurZ Zd w7 wx D (py ++ [(qb, qa, qi)]) ∧ KX Zd w9 wx))
            case first =>
              gi_wp2_with (first | (gi_at_call 14; refine (CallsIn.inRound _ (callsIn_wide.2 (HDR.out.toP.node (by omega)))).mono ?_; rintro e w11 ⟨rfl, hk11⟩; have HK11 := hide1 hk11; clear hk11) | (gi_at_call 15; refine (CallsIn.inRound _ (callsIn_wide.2 ((HDR.out.keep HK11.out).toP.offset (by omega)))).mono ?_; rintro e w12 ⟨rfl, hk12⟩; have HK12 := hide1 hk12; clear hk12) | (gi_at_call 16; refine (CallsIn.inRound _ (callsIn_wide.2 (HPB.out w12 (gtrans HK11.out HK12.out)))).mono ?_; rintro e w13 ⟨⟨pv2, rfl, hpv2⟩, hk13⟩; have HPV2 := hide1 hpv2; have HK13 := hide1 hk13; clear hpv2 hk13) | (gi_at_call 18; refine (CallsIn.inRound _ (callsIn_wide.2 (sameInts_is ps pv2 _ w13 HPV2.out.1 (HPR.out.1.keep (gtrans (gtrans HK11.out HK12.out) HK13.out))))).mono ?_; rintro e w14 ⟨rfl, hk14⟩; have HK14 := hide1 hk14; clear hk14))
              gi_meet
              exact ⟨rfl, dz_keep ⟨HDR.out, HXR.out⟩ (gtrans (gtrans (gtrans HK11.out HK12.out) HK13.out) HK14.out) (HZL.out _ HXR.out)⟩
            case rest =>
              obtain ⟨rfl, H0⟩ := hcut
              clear HPR HXR HPB HDR HCD
              gi_upto_region 31 with fail
              gi_cut [171] from 172 (fun v wx => v = .bool false ∧ Hid (CurZ Zd w7 wx D (py ++ [(qb, qa, qi)]) ∧ KX Zd w9 wx))
              case first =>
                have HKN : Hid ((N qb).kids.length = 0 ∨ ∃ t, (N qb).kids.length = t + 1 ∧ (t : Int) ≤ 4194304) := by
                  have h4 : (N qb).kids.length ≤ 4194304 := by
                    obtain ⟨_, kv, _, a, cap, _, _, h, _⟩ := (HF7.out qb hqP).1
                    exact h
                  cases hc : (N qb).kids.length with
                  | zero => exact Or.inl rfl
                  | succ t => exact Or.inr ⟨t, rfl, by omega⟩
                have HUP : Hid (∀ u : World, ((∃ k, CurZ Zd w7 u D ((py ++ [(qb, qa, qi)]) ++ [k])) ∧ KX Zd w9 u) → Calls Try.prog 22 #[.pointer (some ⟨D, 0, none⟩)] u fun e w' => e = .returned (.bool true) ∧ CurZ Zd w7 w' D (py ++ [(qb, qa, qi)]) ∧ KX Zd u w') := by
                  rintro u ⟨⟨k, hc⟩, hx⟩
                  exact hc.up (HZL.out u hx) (by simp) (by rw [List.length_append]; simp; omega)
                rcases sis_or N py (qb, qa, qi) with hns | ⟨pre9, p9, k9, hpy, hks⟩
                · have HRN : Hid (∀ u : World, (CurZ Zd w7 u D (py ++ [(qb, qa, qi)]) ∧ KX Zd w9 u) → Calls Try.prog 19 #[.pointer (some ⟨D, 0, none⟩)] u fun e w' => e = .returned (.bool false) ∧ Kept u w') := fun u h => h.1.rightNone HF7.out h17 HFW.out HPO.out hns
                  clear hns
                  rcases HKN.out with hkn | ⟨t, hkn, htI⟩
                  · have HCNT : Hid (∀ u : World, Kept w7 u → Calls Try.prog 21 #[.pointer (some ⟨qb, 0, none⟩)] u fun e w' => e = .returned (.int .i64 0) ∧ w' = u) := by
                      intro u hu
                      have h := count_is w1.heap.size qb (N qb) u ((HF7.out.kb (hu.kb h17)) qb hqP).1
                      rw [hkn] at h
                      exact h
                    clear hkn
                    gi_wp2_with (first | (gi_at_call 19; refine (CallsIn.inRound _ (callsIn_wide.2 (HRN.out wc H0.out))).mono ?_; rintro e u3 ⟨rfl, hk3⟩; have H3 := hide1 (dz_keep H0.out hk3 (HZL.out _ H0.out.2)); clear hk3) | (gi_at_call 21; refine (CallsIn.inRound _ (callsIn_wide.2 (HCNT.out u3 H3.out.1.1))).mono ?_; rintro e u4 ⟨rfl, hu4⟩; have hu4 := hu4.symm; subst hu4) | (gi_at_call 14; exfalso; rename_i hq1 hq2; exact absurd hq1 (by simp [undef])) | (gi_at_call 22; exfalso; rename_i hq1 hq2; exact absurd hq1 (by simp [undef])) | (gi_at_call 15; exfalso; rename_i hq1 hq2; exact absurd hq1 (by simp [undef])))
                    all_goals (gi_meet; exact ⟨rfl, H3⟩)
                  · have HCNT : Hid (∀ u : World, Kept w7 u → Calls Try.prog 21 #[.pointer (some ⟨qb, 0, none⟩)] u fun e w' => e = .returned (.int .i64 ((t : Int) + 1)) ∧ w' = u) := by
                      intro u hu
                      have h := count_is w1.heap.size qb (N qb) u ((HF7.out.kb (hu.kb h17)) qb hqP).1
                      rw [hkn] at h
                      exact h
                    have HDN : Hid (∀ u : World, (CurZ Zd w7 u D (py ++ [(qb, qa, qi)]) ∧ KX Zd w9 u) → Calls Try.prog 17 #[.pointer (some ⟨D, 0, none⟩), .int .i64 (t : Int)] u fun e w' => e = .returned (.bool true) ∧ (∃ k, CurZ Zd w7 w' D ((py ++ [(qb, qa, qi)]) ++ [k])) ∧ KX Zd u w') := fun u h => h.1.lastDown (HZL.out u h.2) HF7.out h17 HFW.out HPO.out (by show t < (N qb).kids.length; omega)
                    have htp : (0 : Int) < (t : Int) + 1 := by omega
                    clear hkn
                    gi_wp2_with (first | (gi_at_call 19; refine (CallsIn.inRound _ (callsIn_wide.2 (HRN.out wc H0.out))).mono ?_; rintro e u3 ⟨rfl, hk3⟩; have H3 := hide1 (dz_keep H0.out hk3 (HZL.out _ H0.out.2)); clear hk3) | (gi_at_call 21; refine (CallsIn.inRound _ (callsIn_wide.2 (HCNT.out u3 H3.out.1.1))).mono ?_; rintro e u4 ⟨rfl, hu4⟩; have hu4 := hu4.symm; subst hu4) | (gi_at_call 17; refine (CallsIn.inRound _ (callsIn_wide.2 (HDN.out u3 H3.out))).mono ?_; rintro e u5 ⟨rfl, hc5, hx5⟩; have H5 := hide1 (And.intro hc5 (H3.out.2.trans hx5)); clear hc5 hx5) | (gi_at_call 22; refine (CallsIn.inRound _ (callsIn_wide.2 (HUP.out u5 H5.out))).mono ?_; rintro e u6 ⟨rfl, hc6, hx6⟩; have H6 := hide1 (And.intro hc6 (H5.out.2.trans hx6)); clear hc6 hx6) | (gi_at_call 14; refine (CallsIn.inRound _ (callsIn_wide.2 (H6.out.1.toP.node (by omega)))).mono ?_; rintro e u7 ⟨rfl, hk7⟩; have H7 := hide1 (dz_keep H6.out hk7 (HZL.out _ H6.out.2)); clear hk7) | (gi_at_call 15; refine (CallsIn.inRound _ (callsIn_wide.2 (H7.out.1.toP.offset (by omega)))).mono ?_; rintro e u8 ⟨rfl, hk8⟩; have H8 := hide1 (dz_keep H7.out hk8 (HZL.out _ H7.out.2)); clear hk8) | (gi_at_call 14; exfalso; rename_i hq1 hq2; exact absurd hq1 (by simp [undef])) | (gi_at_call 22; exfalso; rename_i hq1 hq2; exact absurd hq1 (by simp [undef])) | (gi_at_call 15; exfalso; rename_i hq1 hq2; exact absurd hq1 (by simp [undef])))
                    all_goals (gi_meet; exact ⟨rfl, H8⟩)
                · have HRT : Hid (∀ u : World, (CurZ Zd w7 u D (py ++ [(qb, qa, qi)]) ∧ KX Zd w9 u) → Calls Try.prog 19 #[.pointer (some ⟨D, 0, none⟩)] u fun e w' => e = .returned (.bool true) ∧ CurZ Zd w7 w' D (pre9 ++ [p9, (k9.1, p9.2.1 + k9.2, qi + 1)]) ∧ KX Zd u w') := by
                    rintro u ⟨h1, h2⟩
                    have hP := HPO.out
                    rw [hpy] at h1 hP
                    exact h1.rightSis (HZL.out u h2) HF7.out h17 HFW.out hP hks
                  have HLT : Hid (∀ u : World, (CurZ Zd w7 u D (pre9 ++ [p9, (k9.1, p9.2.1 + k9.2, qi + 1)]) ∧ KX Zd w9 u) → Calls Try.prog 20 #[.pointer (some ⟨D, 0, none⟩)] u fun e w' => e = .returned (.bool true) ∧ CurZ Zd w7 w' D (py ++ [(qb, qa, qi)]) ∧ KX Zd u w') := by
                    rintro u ⟨h1, h2⟩
                    have hP := HPO.out
                    rw [hpy] at hP ⊢
                    exact CurZ.leftBack (q := (qb, qa, qi)) h1 (HZL.out u h2) HF7.out h17 HFW.out hP hks
                  clear hpy hks
                  rcases HKN.out with hkn | ⟨t, hkn, htI⟩
                  · have HCNT : Hid (∀ u : World, Kept w7 u → Calls Try.prog 21 #[.pointer (some ⟨qb, 0, none⟩)] u fun e w' => e = .returned (.int .i64 0) ∧ w' = u) := by
                      intro u hu
                      have h := count_is w1.heap.size qb (N qb) u ((HF7.out.kb (hu.kb h17)) qb hqP).1
                      rw [hkn] at h
                      exact h
                    clear hkn
                    gi_wp2_with (first | (gi_at_call 19; refine (CallsIn.inRound _ (callsIn_wide.2 (HRT.out wc H0.out))).mono ?_; rintro e u1 ⟨rfl, hc1, hx1⟩; have H1 := hide1 (And.intro hc1 (H0.out.2.trans hx1)); clear hc1 hx1) | (gi_at_call 20; refine (CallsIn.inRound _ (callsIn_wide.2 (HLT.out u1 H1.out))).mono ?_; rintro e u2 ⟨rfl, hc2, hx2⟩; have H2 := hide1 (And.intro hc2 (H1.out.2.trans hx2)); clear hc2 hx2) | (gi_at_call 14; refine (CallsIn.inRound _ (callsIn_wide.2 (H2.out.1.toP.node (by omega)))).mono ?_; rintro e u3 ⟨rfl, hk3⟩; have H3 := hide1 (dz_keep H2.out hk3 (HZL.out _ H2.out.2)); clear hk3 H2) | (gi_at_call 21; refine (CallsIn.inRound _ (callsIn_wide.2 (HCNT.out u3 H3.out.1.1))).mono ?_; rintro e u4 ⟨rfl, hu4⟩; have hu4 := hu4.symm; subst hu4) | (gi_at_call 14; exfalso; rename_i hq1 hq2; exact absurd hq1 (by simp [undef])) | (gi_at_call 22; exfalso; rename_i hq1 hq2; exact absurd hq1 (by simp [undef])) | (gi_at_call 15; exfalso; rename_i hq1 hq2; exact absurd hq1 (by simp [undef])))
                    all_goals (gi_meet; exact ⟨rfl, H3⟩)
                  · have HCNT : Hid (∀ u : World, Kept w7 u → Calls Try.prog 21 #[.pointer (some ⟨qb, 0, none⟩)] u fun e w' => e = .returned (.int .i64 ((t : Int) + 1)) ∧ w' = u) := by
                      intro u hu
                      have h := count_is w1.heap.size qb (N qb) u ((HF7.out.kb (hu.kb h17)) qb hqP).1
                      rw [hkn] at h
                      exact h
                    have HDN : Hid (∀ u : World, (CurZ Zd w7 u D (py ++ [(qb, qa, qi)]) ∧ KX Zd w9 u) → Calls Try.prog 17 #[.pointer (some ⟨D, 0, none⟩), .int .i64 (t : Int)] u fun e w' => e = .returned (.bool true) ∧ (∃ k, CurZ Zd w7 w' D ((py ++ [(qb, qa, qi)]) ++ [k])) ∧ KX Zd u w') := fun u h => h.1.lastDown (HZL.out u h.2) HF7.out h17 HFW.out HPO.out (by show t < (N qb).kids.length; omega)
                    have htp : (0 : Int) < (t : Int) + 1 := by omega
                    clear hkn
                    gi_wp2_with (first | (gi_at_call 19; refine (CallsIn.inRound _ (callsIn_wide.2 (HRT.out wc H0.out))).mono ?_; rintro e u1 ⟨rfl, hc1, hx1⟩; have H1 := hide1 (And.intro hc1 (H0.out.2.trans hx1)); clear hc1 hx1) | (gi_at_call 20; refine (CallsIn.inRound _ (callsIn_wide.2 (HLT.out u1 H1.out))).mono ?_; rintro e u2 ⟨rfl, hc2, hx2⟩; have H2 := hide1 (And.intro hc2 (H1.out.2.trans hx2)); clear hc2 hx2) | (gi_at_call 14; refine (CallsIn.inRound _ (callsIn_wide.2 (H2.out.1.toP.node (by omega)))).mono ?_; rintro e u3 ⟨rfl, hk3⟩; have H3 := hide1 (dz_keep H2.out hk3 (HZL.out _ H2.out.2)); clear hk3 H2) | (gi_at_call 21; refine (CallsIn.inRound _ (callsIn_wide.2 (HCNT.out u3 H3.out.1.1))).mono ?_; rintro e u4 ⟨rfl, hu4⟩; have hu4 := hu4.symm; subst hu4) | (gi_at_call 17; refine (CallsIn.inRound _ (callsIn_wide.2 (HDN.out u3 H3.out))).mono ?_; rintro e u5 ⟨rfl, hc5, hx5⟩; have H5 := hide1 (And.intro hc5 (H3.out.2.trans hx5)); clear hc5 hx5) | (gi_at_call 22; refine (CallsIn.inRound _ (callsIn_wide.2 (HUP.out u5 H5.out))).mono ?_; rintro e u6 ⟨rfl, hc6, hx6⟩; have H6 := hide1 (And.intro hc6 (H5.out.2.trans hx6)); clear hc6 hx6) | (gi_at_call 14; refine (CallsIn.inRound _ (callsIn_wide.2 (H6.out.1.toP.node (by omega)))).mono ?_; rintro e u7 ⟨rfl, hk7⟩; have H7 := hide1 (dz_keep H6.out hk7 (HZL.out _ H6.out.2)); clear hk7) | (gi_at_call 15; refine (CallsIn.inRound _ (callsIn_wide.2 (H7.out.1.toP.offset (by omega)))).mono ?_; rintro e u8 ⟨rfl, hk8⟩; have H8 := hide1 (dz_keep H7.out hk8 (HZL.out _ H7.out.2)); clear hk8) | (gi_at_call 14; exfalso; rename_i hq1 hq2; exact absurd hq1 (by simp [undef])) | (gi_at_call 22; exfalso; rename_i hq1 hq2; exact absurd hq1 (by simp [undef])) | (gi_at_call 15; exfalso; rename_i hq1 hq2; exact absurd hq1 (by simp [undef])))
                    all_goals (gi_meet; exact ⟨rfl, H8⟩)
              case rest =>
                obtain ⟨rfl, H9⟩ := hcut
                have HCC : Hid (CurZ (Zp TT wX.heap.size bc) wX wc C (py ++ [(qb, qa, qi)])) := HC7.out.keep H9.out.1.1
                have HKC : Hid (Kept W wc) := gtrans (gtrans HK6.out HK7.out) H9.out.1.1
                have lcc := grown_cell H9.out.1.1 lc7
                have HGD : Hid (wc.heap[bc + 1]? = some (.cells #[.bool false] 4 (0, 0))) := (HKC.out.2.2.2.2 (bc + 1) bd).trans HG.out.2.2.1
                have HZC : Hid (∀ u : World, W.heap.size ≤ u.heap.size → ∀ k, Zp TT wX.heap.size bc k → k < u.heap.size) := by
                  rintro u hu k (h | h)
                  · have := (HTB.out k h).2
                    omega
                  · have := HG.out.2.1
                    omega
                have hBX : w1.heap.size ≤ wX.heap.size := HKX.out.size
                obtain ⟨rem, hrem⟩ : ∃ rem, (N qb).kids.map Prod.fst ++ restW N (py ++ [(qb, qa, qi)]) = rem := ⟨_, rfl⟩
                obtain ⟨e9, he9⟩ : ∃ e9, qa + lwid (N qb) = e9 := ⟨_, rfl⟩
                rw [hrem, he9] at HX2
                have HMORE : Hid (∃ more : Bool, Calls Try.prog 17 #[.pointer (some ⟨C, 0, none⟩), .int .i64 0] wc fun e w' => e = .returned (.bool more) ∧ ∃ wy', CurZ (Zp TT wX.heap.size bc) wX w' C wy' ∧ KX (Zp TT wX.heap.size bc) wc w' ∧ Climb (fun b => b ∈ P) N b rem e9 more false wy') := by
                  show ∃ more : Bool, _
                  rw [← hrem, ← he9]
                  by_cases hk : (N qb).kids = []
                  · refine ⟨false, (HCC.out.downNo (i := 0) HFX.out hBX hqP (by omega) (Or.inr (by show ((N qb).kids.length : Int) ≤ 0; rw [hk]; simp))).mono ?_⟩
                    rintro e w' ⟨rfl, hk'⟩
                    exact ⟨rfl, _, HCC.out.keep hk', ⟨hk'.size, fun k hz => hk'.2.2.2.2 k (HZC.out wc HKC.out.size k hz)⟩, climb0 (q := (qb, qa, qi)) HFW.out HPO.out hk⟩
                  · exact ⟨true, HCC.out.enter1 (HZC.out wc HKC.out.size) HFX.out hBX HFW.out HPO.out hk⟩
                obtain ⟨more, hmore⟩ := HMORE.out
                have HMO := hide1 hmore
                clear hrem he9 hmore HMORE
                gi_wp2_with (gi_at_call 17; refine (CallsIn.inRound _ (callsIn_wide.2 HMO.out)).mono ?_; rintro e v0 ⟨rfl, wy0, hc0, hx0, hl0⟩; have HV0 : Hid (ClI (fun b => b ∈ P) N b rem e9 TT wX wc C bc wy0.length more false wy0 v0) := ⟨hl0, hc0, kxq hx0, (hx0.2 (bc + 1) (Or.inr (Or.inr (Or.inr (Or.inl rfl))))).trans HGD.out, fun _ _ => Nat.le_refl _⟩; clear hl0 hc0 hx0)
                have HCB : Hid (wc.heap[bc]? = some (.cells #[.pointer (some ⟨C, 0, none⟩)] 46 (0, 0))) := by
                  have hl : bc < W.heap.size := by omega
                  exact (HKC.out.2.2.2.2 bc hl).trans (HG.out.2.2.2.1.trans HBC.out)
                gi_loopg [15] (wy0.length) (fun n vm wr => ∃ (more dn : Bool) (wy' : List (Nat × Nat × Nat)), vm = .bool more ∧ Hid (ClI (fun b => b ∈ P) N b rem e9 TT wX wc C bc n more dn wy' wr))
                case atStart => exact ⟨more, false, wy0, rfl, HV0⟩
                case round =>
                  obtain ⟨more1, dn, wy1, rfl, HL⟩ := hrel
                  clear HV0 lcc
                  have lc1 : wr.cell? ⟨bc, 0, none⟩ = some (.pointer (some ⟨C, 0, none⟩)) := (boxB_of ((HL.out.2.2.1.2 bc ⟨Or.inr (Or.inr (Or.inl rfl)), by omega⟩).trans HCB.out)).1
                  obtain ⟨ld1, zd1, bd1⟩ := boxB_of HL.out.2.2.2.1
                  by_cases hend : more1 = true ∨ dn = true
                  · have HEND := hide1 (pt_end (x := (qa, qb)) HG.out.1 HG.out.2.1 hs5 hbX hBX HKC.out HL.out HX2.out hend HG.out.2.2.2.1 HG.out.2.2.2.2)
                    clear HL
                    cases more1 with
                    | true =>
                      clear hend
                      gi_wp2_with fail
                      exact HEND.out
                    | false =>
                      have hdn : dn = true := by simpa using hend
                      subst hdn
                      clear hend
                      gi_wp2_with fail
                      exact HEND.out
                  · have hm0 : more1 = false := by cases more1 <;> simp_all
                    have hd0 : dn = false := by cases dn <;> simp_all
                    subst hm0
                    subst hd0
                    clear hend
                    obtain ⟨py1, q1, rfl, hre, hee, hP1⟩ := HL.out.1.at
                    have HP1 := hide1 hP1
                    have HRE := hide1 hre
                    have HEE := hide1 hee
                    have hWr : W.heap.size ≤ wr.heap.size := Nat.le_trans HKC.out.size HL.out.2.2.1.1
                    have hpl1 : py1.length ≤ 300 := by
                      have h1 := (path_bounds HF5.out HFW.out hP1 py1.length q1 (by simp)).1
                      have h2 := HN.out
                      omega
                    have hgk : py1.length + 1 ≤ gk := by
                      have := HL.out.2.2.2.2 rfl rfl
                      simpa using this
                    clear hre hee hP1
                    rcases sis_or N py1 q1 with hns | ⟨pre9, p9, k9, hpy, hks⟩
                    · have HRN := hide1 (HL.out.2.1.rightNone HFX.out hBX HFW.out HP1.out hns)
                      rcases List.eq_nil_or_concat py1 with hpy | ⟨pre9, p9, hpy⟩
                      · subst hpy
                        have HUN : Hid (∀ u : World, Kept wr u → Calls Try.prog 22 #[.pointer (some ⟨C, 0, none⟩)] u fun e w' => e = .returned (.bool false) ∧ w' = u) := fun u hu => (HL.out.2.1.keep hu).upTop
                        clear hns
                        gi_wp2_with (first | (gi_at_call 19; refine (CallsIn.inRound _ (callsIn_wide.2 (HRN.out))).mono ?_; rintro e v1 ⟨rfl, hk1⟩; have HV1 := hide1 hk1; have lc2 := grown_cell hk1 lc1; obtain ⟨ld2, zd2, bd2⟩ := boxB_of ((hk1.2.2.2.2 _ bd1).trans HL.out.2.2.2.1); clear hk1) | (gi_at_call 22; refine (CallsIn.inRound _ (callsIn_wide.2 (HUN.out v1 HV1.out))).mono ?_; rintro e v2 ⟨rfl, hv2⟩; have hv2 := hv2.symm; subst hv2))
                        gi_roundg (gk - 1)
                        case measure => omega
                        case rel =>
                          refine ⟨false, true, [] ++ [q1], rfl, ?_, ?_, ?_, ?_, fun _ h => by simp at h⟩
                          · rw [HRE.out]
                            exact climb_top HP1.out
                          · exact (HL.out.2.1.keep HV1.out).set (Or.inr (Or.inr (Or.inr (Or.inl rfl)))) (by omega) _
                          · exact HL.out.2.2.1.trans (KX.trans ⟨HV1.out.size, fun k hz => HV1.out.2.2.2.2 k (HZC.out wr hWr k hz.1)⟩ (kxq_set _ _))
                          · exact boolBox_set ((HV1.out.2.2.2.2 _ bd1).trans HL.out.2.2.2.1)
                      · rw [List.concat_eq_append] at hpy
                        have HUY : Hid (∀ u : World, Kept wr u → Calls Try.prog 22 #[.pointer (some ⟨C, 0, none⟩)] u fun e w' => e = .returned (.bool true) ∧ CurZ (Zp TT wX.heap.size bc) wX w' C py1 ∧ KX (Zp TT wX.heap.size bc) u w') := fun u hu => (HL.out.2.1.keep hu).up (HZC.out u (Nat.le_trans hWr hu.size)) (by rw [hpy]; simp) (by omega)
                        have HCL : Hid (Climb (fun b => b ∈ P) N b rem e9 false false py1) := by
                          have h1 := HP1.out
                          rw [HRE.out]
                          rw [hpy] at h1 hns ⊢
                          exact climb_up HF5.out HFW.out h1 HEE.out hns
                        clear hns hpy
                        gi_wp2_with (first | (gi_at_call 19; refine (CallsIn.inRound _ (callsIn_wide.2 (HRN.out))).mono ?_; rintro e v1 ⟨rfl, hk1⟩; have HV1 := hide1 hk1; have lc2 := grown_cell hk1 lc1; obtain ⟨ld2, zd2, bd2⟩ := boxB_of ((hk1.2.2.2.2 _ bd1).trans HL.out.2.2.2.1); clear hk1) | (gi_at_call 22; refine (CallsIn.inRound _ (callsIn_wide.2 (HUY.out v1 HV1.out))).mono ?_; rintro e v2 ⟨rfl, hc2, hx2⟩; have HV2 := hide1 (And.intro hc2 hx2); obtain ⟨ld3, zd3, bd3⟩ := boxB_of ((hx2.2 (bc + 1) (Or.inr (Or.inr (Or.inr (Or.inl rfl))))).trans ((HV1.out.2.2.2.2 _ bd1).trans HL.out.2.2.2.1)); clear hc2 hx2))
                        gi_roundg (gk - 1)
                        case measure => omega
                        case rel =>
                          refine ⟨false, false, py1, rfl, HCL.out, ?_, ?_, ?_, fun _ _ => by omega⟩
                          · exact HV2.out.1.set (Or.inr (Or.inr (Or.inr (Or.inl rfl)))) (by omega) _
                          · exact HL.out.2.2.1.trans (KX.trans (KX.trans ⟨HV1.out.size, fun k hz => HV1.out.2.2.2.2 k (HZC.out wr hWr k hz.1)⟩ (kxq HV2.out.2)) (kxq_set _ _))
                          · exact boolBox_set ((HV2.out.2.2 (bc + 1) (Or.inr (Or.inr (Or.inr (Or.inl rfl))))).trans ((HV1.out.2.2.2.2 _ bd1).trans HL.out.2.2.2.1))
                    · have HRS : Hid (Calls Try.prog 19 #[.pointer (some ⟨C, 0, none⟩)] wr fun e w' => e = .returned (.bool true) ∧ CurZ (Zp TT wX.heap.size bc) wX w' C (pre9 ++ [p9, (k9.1, p9.2.1 + k9.2, q1.2.2 + 1)]) ∧ KX (Zp TT wX.heap.size bc) wr w') := by
                        have h1 := HL.out.2.1
                        have h2 := HP1.out
                        rw [hpy] at h1 h2
                        exact h1.rightSis (HZC.out wr hWr) HFX.out hBX HFW.out h2 hks
                      have HCL : Hid (Climb (fun b => b ∈ P) N b rem e9 true false (pre9 ++ [p9, (k9.1, p9.2.1 + k9.2, q1.2.2 + 1)])) := by
                        have h2 := HP1.out
                        rw [HRE.out]
                        rw [hpy] at h2 ⊢
                        exact climb_sis HF5.out HFW.out h2 HEE.out hks
                      clear hpy hks
                      gi_wp2_with (gi_at_call 19; refine (CallsIn.inRound _ (callsIn_wide.2 (HRS.out))).mono ?_; rintro e v1 ⟨rfl, hc2, hx2⟩; have HV2 := hide1 (And.intro hc2 hx2); clear hc2 hx2)
                      gi_roundg (gk - 1)
                      case measure => omega
                      case rel => exact ⟨true, false, _, rfl, HCL.out, HV2.out.1, HL.out.2.2.1.trans (kxq HV2.out.2), (HV2.out.2.2 (bc + 1) (Or.inr (Or.inr (Or.inr (Or.inl rfl))))).trans HL.out.2.2.2.1, fun h => by simp at h⟩

end Tr
end Ex
end Go.Proofs.Ytpbnjdnlgcfiiaa
