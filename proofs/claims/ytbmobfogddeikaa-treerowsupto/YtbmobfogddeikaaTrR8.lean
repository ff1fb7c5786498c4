import Derived.Test.YtbmobfogddeikaaTrR7
import Derived.Test.YtbmobfogddeikaaTrLeav
import Derived.Test.YtbmobfogddeikaaTrRc
import Derived.Test.YtbmobfogddeikaaTrQr
import Derived.Test.YtbmobfogddeikaaTrR9
namespace Go.Proofs.Ytbmobfogddeikaa
open Go.RowKit
attribute [local go_sem] Oper.semAt_some
namespace Ex
namespace Tr
attribute [local simp] wide_fn

section
variable {B b : Nat} {w : World} {x : Nd}
set_option linter.unusedSimpArgs false
theorem kind_is (h : NodeAt B w b x) : Calls Try.prog 18 #[.pointer (some ⟨b, 0, none⟩)] w fun e w' => e = .returned (.int .i64 x.kind) ∧ w' = w := by
  obtain ⟨kv, _, _, _, c1, c2, _, _, _, _, _, _, c9, _⟩ := h.cells
  clear h
  go_enter Try.func18, Try.ntmps18
  go_wp2_with fail
  go_ret
  exact ⟨rfl, rfl⟩
theorem count_n (h : NodeAt B w b x) : Calls Try.prog 17 #[.pointer (some ⟨b, 0, none⟩)] w fun e w' => e = .returned (.int .i64 (x.kids.length : Int)) ∧ w' = w := by
  obtain ⟨kv, ⟨a, cap, hkv, _⟩, _, _, c1, c2, _, _, _, _, _, c8, c9, _⟩ := h.cells
  subst hkv
  clear h
  go_enter Try.func17, Try.ntmps17
  go_wp2_with fail
  go_ret
  exact ⟨rfl, rfl⟩
end

/-- Rows that are told. -/
def RdR (n : Nat) (l : List Nd) (W : World) (e : Ending) (w' : World) : Prop := ∃ a c, e = .returned (.slice a n c) ∧ RowsRd w' (.slice a n c) l ∧ Kept W w'
theorem rows_rd {R : Nat → Prop} {N : Nat → Nd} {B b n : Nat} {w : World} (hF : Forest R N B w) (hb : R b) (hB : B ≤ w.heap.size) (hn : (N b).size = n) (hz : n ≤ 4000) : Calls Try.prog 6 #[.pointer (some ⟨b, 0, none⟩)] w (RdR n ((wl N (N b).size [b] 0).map fun q => N q.2) w) := by
  have hlen : ((wl N (N b).size [b] 0).map fun q => N q.2).length = n := by rw [List.length_map, hn]; exact wl_len_eq hF n [b] 0 (fun p hp => by rw [List.mem_singleton.1 hp]; exact hb) (by rw [← hn]; simp [sizeS])
  refine (rowsF_is R N B b w hF hb hB).mono ?_
  rintro e w' ⟨⟨v, rfl, hv⟩, hk⟩
  obtain ⟨a, c, rfl⟩ := hv.form
  have h1 := hv.rd (by rw [hlen]; omega)
  rw [hlen] at h1 ⊢
  exact ⟨a, c, rfl, h1, hk⟩
theorem plain_rd {n : Nat} {a : Option Addr} {c : Nat} {l : List Nd} {w : World} (h : RowsRd w (.slice a n c) l) (hl : l.length = n) (hz : n ≤ 4000) : Calls Try.prog 10 #[.slice a n c] w (RdR n (l.map noId) w) := by
  refine (plain_is _ l w h).mono ?_
  rintro e w' ⟨⟨v, rfl, hv⟩, hk⟩
  obtain ⟨a', c', rfl⟩ := hv.form
  have h1 := hv.rd (by rw [List.length_map, hl]; omega)
  rw [List.length_map, hl] at h1 ⊢
  exact ⟨a', c', rfl, h1, hk⟩
theorem rows_map {N : Nat → Nd} {b : Nat} : (((wl N (N b).size [b] 0).map fun q => N q.2).map noId).map rowL = rowsL N [b] := by
  unfold rowsL
  rw [List.map_map, List.map_map, show sizeS N [b] = (N b).size by simp [sizeS]]
  rfl
/-- What last tells, as a number. -/
def LastI (P : List Nat) (N : Nat → Nd) (r : Int) : Prop := r = -1 ∨ ∃ i b : Nat, r = (i : Int) ∧ P[i]? = some b ∧ (N b).size ≤ 4000
theorem LastR.int {P : List Nat} {N : Nat → Nd} {e : Ending} (h : LastR P N e) : ∃ r, e = .returned (.int .i64 r) ∧ LastI P N r := by
  rcases h with h | ⟨i, b, h, h1, h2⟩
  · exact ⟨_, h, Or.inl rfl⟩
  · exact ⟨_, h, Or.inr ⟨i, b, rfl, h1, h2⟩⟩
theorem IntsA.up {A A' : Nat} {w : World} {v : Value} {xs : List Int} (h : IntsA A w v xs) (hA : A ≤ A') : IntsA A' w v xs := by
  obtain ⟨a, cap, h1, h2, h3, h4⟩ := h
  refine ⟨a, cap, h1, h2, h3, ?_⟩
  rcases h4 with h4 | ⟨c, o, h5, h6, h7⟩
  · exact Or.inl h4
  · exact Or.inr ⟨c, o, h5, by omega, h7⟩
theorem ScriptA.up {A A' : Nat} {w : World} {v : Value} {l : List StepM} (h : ScriptA A w v l) (hA : A ≤ A') : ScriptA A' w v l := by
  obtain ⟨a, cap, h1, h2, h3, h4⟩ := h
  refine ⟨a, cap, h1, h2, h3, ?_⟩
  rcases h4 with h4 | ⟨c, o, h5, h6, h7⟩
  · exact Or.inl h4
  · refine Or.inr ⟨c, o, h5, by omega, fun i x hx => ?_⟩
    obtain ⟨kv, h8, h9⟩ := h7 i x hx
    exact ⟨kv, h8.up hA, h9⟩

def FrR (rc b rb br bs kb : Nat) (a : Act) : Prop := ∃ T : Nat → Value, a = { tmps := List.toArray (T 0 :: T 1 :: (.pointer (some ⟨rc, 0, none⟩)) :: T 3 :: T 4 :: T 5 :: (.pointer (some ⟨b, 0, none⟩)) :: (.pointer (some ⟨rb, 0, none⟩)) :: T 8 :: T 9 :: T 10 :: (.func (.func 25) #[] #[.pointer (some ⟨br, 0, none⟩)]) :: (.func (.func 27) #[] #[.pointer (some ⟨bs, 0, none⟩)]) :: (.pointer (some ⟨kb, 0, none⟩)) :: T 14 :: T 15 :: T 16 :: T 17 :: T 18 :: T 19 :: T 20 :: T 21 :: T 22 :: T 23 :: T 24 :: T 25 :: T 26 :: T 27 :: T 28 :: T 29 :: T 30 :: T 31 :: T 32 :: T 33 :: T 34 :: T 35 :: T 36 :: T 37 :: T 38 :: T 39 :: T 40 :: T 41 :: T 42 :: T 43 :: T 44 :: T 45 :: T 46 :: T 47 :: T 48 :: T 49 :: T 50 :: T 51 :: T 52 :: T 53 :: T 54 :: T 55 :: T 56 :: T 57 :: T 58 :: T 59 :: T 60 :: T 61 :: T 62 :: T 63 :: T 64 :: T 65 :: T 66 :: T 67 :: T 68 :: T 69 :: T 70 :: T 71 :: T 72 :: T 73 :: T 74 :: T 75 :: T 76 :: T 77 :: T 78 :: T 79 :: T 80 :: T 81 :: T 82 :: T 83 :: T 84 :: T 85 :: T 86 :: T 87 :: T 88 :: T 89 :: T 90 :: (.func (.func 25) #[] #[.pointer (some ⟨br, 0, none⟩)]) :: T 92 :: T 93 :: T 94 :: T 95 :: T 96 :: T 97 :: T 98 :: T 99 :: T 100 :: T 101 :: T 102 :: T 103 :: T 104 :: T 105 :: T 106 :: T 107 :: T 108 :: T 109 :: T 110 :: T 111 :: T 112 :: T 113 :: T 114 :: T 115 :: T 116 :: T 117 :: T 118 :: T 119 :: T 120 :: T 121 :: T 122 :: T 123 :: T 124 :: T 125 :: T 126 :: T 127 :: T 128 :: T 129 :: T 130 :: T 131 :: T 132 :: T 133 :: T 134 :: T 135 :: T 136 :: T 137 :: T 138 :: T 139 :: T 140 :: T 141 :: T 142 :: T 143 :: T 144 :: T 145 :: T 146 :: T 147 :: T 148 :: T 149 :: T 150 :: T 151 :: T 152 :: T 153 :: T 154 :: T 155 :: T 156 :: T 157 :: T 158 :: T 159 :: T 160 :: T 161 :: T 162 :: T 163 :: T 164 :: T 165 :: T 166 :: T 167 :: T 168 :: T 169 :: T 170 :: T 171 :: T 172 :: T 173 :: T 174 :: T 175 :: T 176 :: []), defers := [] }
theorem frR_of {rc b rb br bs kb : Nat} (L : List Value) (h : L = nthV L 0 :: nthV L 1 :: (.pointer (some ⟨rc, 0, none⟩)) :: nthV L 3 :: nthV L 4 :: nthV L 5 :: (.pointer (some ⟨b, 0, none⟩)) :: (.pointer (some ⟨rb, 0, none⟩)) :: nthV L 8 :: nthV L 9 :: nthV L 10 :: (.func (.func 25) #[] #[.pointer (some ⟨br, 0, none⟩)]) :: (.func (.func 27) #[] #[.pointer (some ⟨bs, 0, none⟩)]) :: (.pointer (some ⟨kb, 0, none⟩)) :: nthV L 14 :: nthV L 15 :: nthV L 16 :: nthV L 17 :: nthV L 18 :: nthV L 19 :: nthV L 20 :: nthV L 21 :: nthV L 22 :: nthV L 23 :: nthV L 24 :: nthV L 25 :: nthV L 26 :: nthV L 27 :: nthV L 28 :: nthV L 29 :: nthV L 30 :: nthV L 31 :: nthV L 32 :: nthV L 33 :: nthV L 34 :: nthV L 35 :: nthV L 36 :: nthV L 37 :: nthV L 38 :: nthV L 39 :: nthV L 40 :: nthV L 41 :: nthV L 42 :: nthV L 43 :: nthV L 44 :: nthV L 45 :: nthV L 46 :: nthV L 47 :: nthV L 48 :: nthV L 49 :: nthV L 50 :: nthV L 51 :: nthV L 52 :: nthV L 53 :: nthV L 54 :: nthV L 55 :: nthV L 56 :: nthV L 57 :: nthV L 58 :: nthV L 59 :: nthV L 60 :: nthV L 61 :: nthV L 62 :: nthV L 63 :: nthV L 64 :: nthV L 65 :: nthV L 66 :: nthV L 67 :: nthV L 68 :: nthV L 69 :: nthV L 70 :: nthV L 71 :: nthV L 72 :: nthV L 73 :: nthV L 74 :: nthV L 75 :: nthV L 76 :: nthV L 77 :: nthV L 78 :: nthV L 79 :: nthV L 80 :: nthV L 81 :: nthV L 82 :: nthV L 83 :: nthV L 84 :: nthV L 85 :: nthV L 86 :: nthV L 87 :: nthV L 88 :: nthV L 89 :: nthV L 90 :: (.func (.func 25) #[] #[.pointer (some ⟨br, 0, none⟩)]) :: nthV L 92 :: nthV L 93 :: nthV L 94 :: nthV L 95 :: nthV L 96 :: nthV L 97 :: nthV L 98 :: nthV L 99 :: nthV L 100 :: nthV L 101 :: nthV L 102 :: nthV L 103 :: nthV L 104 :: nthV L 105 :: nthV L 106 :: nthV L 107 :: nthV L 108 :: nthV L 109 :: nthV L 110 :: nthV L 111 :: nthV L 112 :: nthV L 113 :: nthV L 114 :: nthV L 115 :: nthV L 116 :: nthV L 117 :: nthV L 118 :: nthV L 119 :: nthV L 120 :: nthV L 121 :: nthV L 122 :: nthV L 123 :: nthV L 124 :: nthV L 125 :: nthV L 126 :: nthV L 127 :: nthV L 128 :: nthV L 129 :: nthV L 130 :: nthV L 131 :: nthV L 132 :: nthV L 133 :: nthV L 134 :: nthV L 135 :: nthV L 136 :: nthV L 137 :: nthV L 138 :: nthV L 139 :: nthV L 140 :: nthV L 141 :: nthV L 142 :: nthV L 143 :: nthV L 144 :: nthV L 145 :: nthV L 146 :: nthV L 147 :: nthV L 148 :: nthV L 149 :: nthV L 150 :: nthV L 151 :: nthV L 152 :: nthV L 153 :: nthV L 154 :: nthV L 155 :: nthV L 156 :: nthV L 157 :: nthV L 158 :: nthV L 159 :: nthV L 160 :: nthV L 161 :: nthV L 162 :: nthV L 163 :: nthV L 164 :: nthV L 165 :: nthV L 166 :: nthV L 167 :: nthV L 168 :: nthV L 169 :: nthV L 170 :: nthV L 171 :: nthV L 172 :: nthV L 173 :: nthV L 174 :: nthV L 175 :: nthV L 176 :: []) : FrR rc b rb br bs kb { tmps := L.toArray, defers := [] } := ⟨fun k => nthV L k, by rw [← h]⟩
theorem frame_toR {c : Code} {Q : Exit → Act → World → Prop} {a : Act} {w : World} {R : Act → Prop} (h : R a) (k : ∀ a', R a' → c.wp Try.prog Q a' w) : c.wp Try.prog Q a w := k a h
/-- While a walk is gone through. -/
def WkI (w7 : World) (kb : Nat) (T : Nat → Prop) (pre : List (Nat × Nat)) (W : World) : Prop :=
  (∀ k, T k → w7.heap.size ≤ k) ∧ KeptBut kb w7 W ∧ W.heap[kb]? = some (.cells #[.int .i64 (pre.length : Int)] 3 (0, 0))
theorem WkI.stable {w7 : World} {kb : Nat} (hk : kb < w7.heap.size) : StableW (WkI w7 kb) := by
  rintro T T' s A A' ⟨g1, g2, g3⟩ hs
  have hn : ∀ k, k < w7.heap.size → ¬ T k := fun k hk h => by have := g1 k h; omega
  refine ⟨fun k hk => ?_, ⟨hs.1.trans g2.1, hs.2.1.trans g2.2.1, hs.2.2.1.trans g2.2.2.1, Nat.le_trans g2.2.2.2.1 hs.2.2.2.1, fun k h1 h2 => (hs.2.2.2.2.1 k (Nat.lt_of_lt_of_le h1 g2.2.2.2.1) (hn k h1)).trans (g2.2.2.2.2 k h1 h2)⟩, (hs.2.2.2.2.1 kb (Nat.lt_of_lt_of_le hk g2.2.2.2.1) (hn kb hk)).trans g3⟩
  rcases hs.2.2.2.2.2 k hk with h | h
  · exact g1 k h
  · exact Nat.le_trans g2.2.2.2.1 h.1
def FrS (rc b rb bs kb ab lb : Nat) (ds : List Deferred) (a : Act) : Prop := ∃ T : Nat → Value, a = { tmps := List.toArray (T 0 :: T 1 :: (.pointer (some ⟨rc, 0, none⟩)) :: T 3 :: T 4 :: T 5 :: (.pointer (some ⟨b, 0, none⟩)) :: (.pointer (some ⟨rb, 0, none⟩)) :: T 8 :: T 9 :: T 10 :: T 11 :: (.func (.func 27) #[] #[.pointer (some ⟨bs, 0, none⟩)]) :: (.pointer (some ⟨kb, 0, none⟩)) :: T 14 :: T 15 :: (.pointer (some ⟨ab, 0, none⟩)) :: (.pointer (some ⟨lb, 0, none⟩)) :: T 18 :: T 19 :: T 20 :: T 21 :: T 22 :: T 23 :: T 24 :: T 25 :: T 26 :: T 27 :: T 28 :: T 29 :: T 30 :: T 31 :: T 32 :: T 33 :: T 34 :: T 35 :: T 36 :: T 37 :: T 38 :: T 39 :: T 40 :: T 41 :: T 42 :: T 43 :: T 44 :: T 45 :: T 46 :: T 47 :: T 48 :: T 49 :: T 50 :: T 51 :: T 52 :: T 53 :: T 54 :: T 55 :: T 56 :: T 57 :: T 58 :: T 59 :: T 60 :: T 61 :: T 62 :: T 63 :: T 64 :: T 65 :: T 66 :: T 67 :: T 68 :: T 69 :: T 70 :: T 71 :: T 72 :: T 73 :: T 74 :: T 75 :: T 76 :: T 77 :: T 78 :: T 79 :: T 80 :: T 81 :: T 82 :: T 83 :: T 84 :: T 85 :: T 86 :: T 87 :: T 88 :: T 89 :: T 90 :: T 91 :: T 92 :: T 93 :: T 94 :: T 95 :: T 96 :: T 97 :: T 98 :: T 99 :: T 100 :: T 101 :: T 102 :: T 103 :: T 104 :: T 105 :: T 106 :: T 107 :: T 108 :: T 109 :: T 110 :: T 111 :: T 112 :: T 113 :: T 114 :: T 115 :: T 116 :: T 117 :: T 118 :: T 119 :: T 120 :: T 121 :: T 122 :: T 123 :: T 124 :: T 125 :: T 126 :: T 127 :: T 128 :: T 129 :: T 130 :: T 131 :: T 132 :: T 133 :: (.func (.func 27) #[] #[.pointer (some ⟨bs, 0, none⟩)]) :: T 135 :: T 136 :: T 137 :: T 138 :: T 139 :: T 140 :: T 141 :: T 142 :: T 143 :: T 144 :: T 145 :: T 146 :: T 147 :: T 148 :: T 149 :: T 150 :: T 151 :: T 152 :: T 153 :: T 154 :: T 155 :: T 156 :: T 157 :: T 158 :: T 159 :: T 160 :: T 161 :: T 162 :: T 163 :: T 164 :: T 165 :: T 166 :: T 167 :: T 168 :: T 169 :: T 170 :: T 171 :: T 172 :: T 173 :: T 174 :: T 175 :: T 176 :: []), defers := ds }
theorem frS_of {rc b rb bs kb ab lb : Nat} {ds : List Deferred} (L : List Value) (h : L = nthV L 0 :: nthV L 1 :: (.pointer (some ⟨rc, 0, none⟩)) :: nthV L 3 :: nthV L 4 :: nthV L 5 :: (.pointer (some ⟨b, 0, none⟩)) :: (.pointer (some ⟨rb, 0, none⟩)) :: nthV L 8 :: nthV L 9 :: nthV L 10 :: nthV L 11 :: (.func (.func 27) #[] #[.pointer (some ⟨bs, 0, none⟩)]) :: (.pointer (some ⟨kb, 0, none⟩)) :: nthV L 14 :: nthV L 15 :: (.pointer (some ⟨ab, 0, none⟩)) :: (.pointer (some ⟨lb, 0, none⟩)) :: nthV L 18 :: nthV L 19 :: nthV L 20 :: nthV L 21 :: nthV L 22 :: nthV L 23 :: nthV L 24 :: nthV L 25 :: nthV L 26 :: nthV L 27 :: nthV L 28 :: nthV L 29 :: nthV L 30 :: nthV L 31 :: nthV L 32 :: nthV L 33 :: nthV L 34 :: nthV L 35 :: nthV L 36 :: nthV L 37 :: nthV L 38 :: nthV L 39 :: nthV L 40 :: nthV L 41 :: nthV L 42 :: nthV L 43 :: nthV L 44 :: nthV L 45 :: nthV L 46 :: nthV L 47 :: nthV L 48 :: nthV L 49 :: nthV L 50 :: nthV L 51 :: nthV L 52 :: nthV L 53 :: nthV L 54 :: nthV L 55 :: nthV L 56 :: nthV L 57 :: nthV L 58 :: nthV L 59 :: nthV L 60 :: nthV L 61 :: nthV L 62 :: nthV L 63 :: nthV L 64 :: nthV L 65 :: nthV L 66 :: nthV L 67 :: nthV L 68 :: nthV L 69 :: nthV L 70 :: nthV L 71 :: nthV L 72 :: nthV L 73 :: nthV L 74 :: nthV L 75 :: nthV L 76 :: nthV L 77 :: nthV L 78 :: nthV L 79 :: nthV L 80 :: nthV L 81 :: nthV L 82 :: nthV L 83 :: nthV L 84 :: nthV L 85 :: nthV L 86 :: nthV L 87 :: nthV L 88 :: nthV L 89 :: nthV L 90 :: nthV L 91 :: nthV L 92 :: nthV L 93 :: nthV L 94 :: nthV L 95 :: nthV L 96 :: nthV L 97 :: nthV L 98 :: nthV L 99 :: nthV L 100 :: nthV L 101 :: nthV L 102 :: nthV L 103 :: nthV L 104 :: nthV L 105 :: nthV L 106 :: nthV L 107 :: nthV L 108 :: nthV L 109 :: nthV L 110 :: nthV L 111 :: nthV L 112 :: nthV L 113 :: nthV L 114 :: nthV L 115 :: nthV L 116 :: nthV L 117 :: nthV L 118 :: nthV L 119 :: nthV L 120 :: nthV L 121 :: nthV L 122 :: nthV L 123 :: nthV L 124 :: nthV L 125 :: nthV L 126 :: nthV L 127 :: nthV L 128 :: nthV L 129 :: nthV L 130 :: nthV L 131 :: nthV L 132 :: nthV L 133 :: (.func (.func 27) #[] #[.pointer (some ⟨bs, 0, none⟩)]) :: nthV L 135 :: nthV L 136 :: nthV L 137 :: nthV L 138 :: nthV L 139 :: nthV L 140 :: nthV L 141 :: nthV L 142 :: nthV L 143 :: nthV L 144 :: nthV L 145 :: nthV L 146 :: nthV L 147 :: nthV L 148 :: nthV L 149 :: nthV L 150 :: nthV L 151 :: nthV L 152 :: nthV L 153 :: nthV L 154 :: nthV L 155 :: nthV L 156 :: nthV L 157 :: nthV L 158 :: nthV L 159 :: nthV L 160 :: nthV L 161 :: nthV L 162 :: nthV L 163 :: nthV L 164 :: nthV L 165 :: nthV L 166 :: nthV L 167 :: nthV L 168 :: nthV L 169 :: nthV L 170 :: nthV L 171 :: nthV L 172 :: nthV L 173 :: nthV L 174 :: nthV L 175 :: nthV L 176 :: []) : FrS rc b rb bs kb ab lb ds { tmps := L.toArray, defers := ds } := ⟨fun k => nthV L k, by rw [← h]⟩

set_option linter.unusedSimpArgs false in
set_option maxRecDepth 100000 in
set_option maxHeartbeats 4000000 in
theorem law_rows (v : Value) (l : List StepM) (w : World) (hS : ScriptA w.heap.size w v l) : Calls Try.prog 3 #[v] w fun e w' => e = .returned (.bool true) ∧ Kept w w' := by
  refine (callsIn_wide (n := 3)).1 ?_
  refine callsIn_of_wp_marks Try.func3 rfl trivial ?_ rfl
  simp only [Try.ntmps3, List.size_toArray, List.length_cons, List.length_nil, Nat.reduceAdd, Nat.reduceSub, Array.replicate_succ, Array.replicate_zero, List.push_toArray, List.append_toArray, List.nil_append, List.cons_append]
  refine (wpIn_wide (n := 3)).2 ?_
  obtain ⟨wZ, hwZ⟩ : ∃ wZ, w.alloc (.cells #[.bool false] 4) = wZ := ⟨_, rfl⟩
  have HKZ : Hid (Kept w wZ) := by rw [← hwZ]; exact (Kept.refl w).alloc _ _
  have HBZ : Hid (wZ.heap[w.heap.size]? = some (.cells #[.bool false] 4 (0, 0))) := by rw [← hwZ]; exact World.alloc_heap_new w _
  have HSZ : Hid (w.heap.size + 1 = wZ.heap.size) := by rw [← hwZ]; show _ = _; simp
  have HSC : Hid (ScriptA wZ.heap.size wZ v l) := (hS.ka (HKZ.out.ka (Nat.le_refl _))).up HKZ.out.size
  have hl : l.length ≤ 1048576 := hS.choose_spec.choose_spec.2.2.1
  clear hS
  go_upto_region 4 with (go_at_call 4; refine (grown_is v l wZ HSC.out).mono ?_; rintro e w1 ⟨base, fb, s0, s1, rfl, hF1, hk1, _, _, _⟩; have HF1 := hide1 hF1; have HK1 := hide1 hk1; clear hF1 hk1)
  obtain ⟨V, P, Q, N, X, m0, m1, vP, vR, vB, hM, hT, hP⟩ := HF1.out
  have HM := hide1 hM
  have HT := hide1 hT
  have HB1 : Hid (w1.heap[w.heap.size]? = some (.cells #[.bool false] 4 (0, 0))) := (HK1.out.2.2.2.2 w.heap.size (by have := HSZ.out; omega)).trans HBZ.out
  have c1 : w1.cell? ⟨w.heap.size, 0, none⟩ = some (.bool false) := by simp [World.cell?, HB1.out]
  have f1 : w1.frozen? ⟨w.heap.size, 0, none⟩ = false := by simp [World.frozen?, HB1.out]
  have HLAST := hide1 (last_is base fb s0 s1 V P Q N X m0 m1 vP vR vB w1 hM hT (by omega))
  clear hM hT hwZ HF1
  go_upto_region 5 with (go_at_call 5; refine HLAST.out.mono ?_; rintro e w2 ⟨hw2, hl2⟩; have hw2 := hw2.symm; subst hw2; obtain ⟨r, rfl, hr⟩ := hl2.int; have HR := hide1 hr; clear hl2 hr)
  have HRC := hide1 (rc_end (gtrans HKZ.out HK1.out) (Nat.le_refl _) HB1.out)
  rcases HR.out with hr | ⟨i, b, hr, hi, hb⟩
  · subst hr
    go_wp2_with fail
    obtain ⟨h1, h2⟩ := HRC.out
    exact ⟨_, results_bool rfl _ _ w.heap.size (.bool true) rfl (by simp [World.cell?, h2]), rfl, h1⟩
  · subst hr
    have hbm : b ∈ P := List.mem_of_getElem? hi
    obtain ⟨gp, cp, rfl, _, cP⟩ := HM.out.2.2.2.1.cell hi
    have c2 : w1.cell? ⟨fb, 2, none⟩ = some (.slice (some ⟨gp, 0, none⟩) P.length cp) := by simp [World.cell?, HM.out.1]
    have hiP := (List.getElem?_eq_some_iff.1 hi).1
    have hiI : (i : Int) < (P.length : Int) := by omega
    have HFO := hide1 (forest_of HM.out HT.out)
    have HMD : Hid (∀ c, c ∈ P → MadeOk N c) := fun c hc => (made_of HT.out hc).1
    have HROWS := hide1 (rowsF_is (fun c => c ∈ P) N w1.heap.size b w1 HFO.out hbm (Nat.le_refl _))
    obtain ⟨n, hn⟩ : ∃ n, (N b).size = n := ⟨_, rfl⟩
    have hlen : ((wl N (N b).size [b] 0).map fun q => N q.2).length = n := by rw [List.length_map, hn]; exact wl_len_eq HFO.out n [b] 0 (fun p hp => by rw [List.mem_singleton.1 hp]; exact hbm) (by rw [← hn]; simp [sizeS])
    rw [hn] at hb
    have HLEN := hide1 hlen
    have HN := hide1 hn
    have hbI : (n : Int) ≤ 4000 := by omega
    clear hi hlen hn HRC HR HLAST c1 f1
    go_upto_region 10 with (first
      | (go_at_call 6; refine HROWS.out.mono ?_; rintro e w3 ⟨⟨v3, rfl, hv3⟩, hk3⟩; obtain ⟨va, vc, hve⟩ := hv3.form; rw [HLEN.out] at hve; subst hve; have HV3 := hide1 hv3; have HK3 := hide1 hk3; clear hv3 hk3)
      | (go_at_call 7; refine (new_is _).mono ?_; rintro e w5 ⟨rfl, hk5, hs5⟩; have HK5 := hide1 hk5; have HS5 := hide1 hs5; clear hk5 hs5))
    have hk34 : Kept w3 (w3.alloc (.cells #[.slice va n vc] 34)) := (Kept.refl w3).alloc _ _
    have hs4 : (w3.alloc (.cells #[.slice va n vc] 34)).heap.size = w3.heap.size + 1 := by simp
    have HK35 : Hid (Kept w3 w5) := gtrans hk34 HK5.out
    have HX5 : Hid (w5.heap[w3.heap.size]? = some (.cells #[.slice va n vc] 34 (0, 0))) := (HK5.out.2.2.2.2 w3.heap.size (by omega)).trans (World.alloc_heap_new w3 _)
    have HST5 : Hid (StoreAt w5 (w3.heap.size + 1) 0) := by rw [← hs4]; exact HS5.out
    have hs5l := HST5.out.lt
    have HK15 : Hid (Kept w1 w5) := gtrans HK3.out HK35.out
    have HRD5 : Hid (RowsRd w5 (.slice va n vc) ((wl N (N b).size [b] 0).map fun q => N q.2)) := (HV3.out.rd (by rw [HLEN.out]; omega)).keep HK35.out
    have HF5 : Hid (Forest (fun c => c ∈ P) N w1.heap.size w5) := HFO.out.kb (HK15.out.kb (Nat.le_refl _))
    have HTALL := hide1 (tall_is (fun c => c ∈ P) N w1.heap.size b (w3.heap.size + 1) (.slice va n vc) w5 HF5.out hbm HMD.out HRD5.out HST5.out (by rw [HN.out]; exact hb))
    have r5 : w5.cell? ⟨w3.heap.size, 0, none⟩ = some (.slice va n vc) := by simp [World.cell?, HX5.out]
    have hs13 : w1.heap.size ≤ w3.heap.size := HK3.out.size
    obtain ⟨rb, hrb⟩ : ∃ rb, w3.heap.size = rb := ⟨_, rfl⟩
    rw [hrb] at r5 HTALL HX5 HST5 hs5l hs13
    have HRB := hide1 hrb
    rw [hrb]
    clear hk34 hs4 HK5 HS5 HROWS hrb c2 cP
    go_upto_region 13 with (go_at_call 8; refine HTALL.out.mono ?_; rintro e w6 ⟨⟨y, rfl, h6⟩, hk6⟩; have H6 := hide1 h6; have HK6 := hide1 hk6; clear h6 hk6)
    obtain ⟨M, R', hFy, hRy, hSm⟩ := H6.out
    have hss := hSm.2.2.2.1
    rw [HN.out] at hss
    have HFY := hide1 hFy
    have HSM := hide1 hSm
    have HF6 : Hid (Forest (fun c => c ∈ P) N w1.heap.size w6) := HF5.out.kb ⟨HK6.out.2.2.2.1, fun k hk => HK6.out.2.2.2.2 k (by have := HK15.out.size; omega) (by omega)⟩
    have hs16 : w1.heap.size ≤ w6.heap.size := Nat.le_trans HK15.out.size HK6.out.2.2.2.1
    have HX6 : Hid (w6.heap[rb]? = some (.cells #[.slice va n vc] 34 (0, 0))) := (HK6.out.2.2.2.2 rb (by omega) (by omega)).trans HX5.out
    have r6 := keeps (show w6.cell? ⟨rb, 0, none⟩ = some (.slice va n vc) by simp [World.cell?, HX6.out])
    have HRD6 : Hid (RowsRd w6 (.slice va n vc) ((wl N (N b).size [b] 0).map fun q => N q.2)) := by
      obtain ⟨qa, qc, e1, e2, e3⟩ := HRD5.out
      refine ⟨qa, qc, e1, e2, fun j z hj => ?_⟩
      obtain ⟨gg, e4, e5⟩ := e3 j z hj
      refine ⟨gg, e4, fun k u hu => HK6.out.cell ?_ (e5 k u hu)⟩
      rintro rfl
      have h8 := e5 1 _ rfl
      rw [HST5.out.one (by omega)] at h8
      cases h8
    have HLY : Hid (((wl M (M y).size [y] 0).map fun q => M q.2).length = n) := by
      show _ = _
      rw [List.length_map, ← hss]
      exact wl_len_eq hFy n [y] 0 (fun p hp => by rw [List.mem_singleton.1 hp]; exact hRy) (by rw [hss]; simp [sizeS])
    have HRY : Hid (∀ W, Kept w6 W → Calls Try.prog 6 #[.pointer (some ⟨y, 0, none⟩)] W (RdR n ((wl M (M y).size [y] 0).map fun q => M q.2) W)) := fun W hW => rows_rd (HFY.out.kb (hW.kb (Nat.le_refl _))) hRy hW.size hss.symm hb
    have HP2 : Hid (∀ W, Kept w6 W → Calls Try.prog 10 #[.slice va n vc] W (RdR n (((wl N (N b).size [b] 0).map fun q => N q.2).map noId) W)) := fun W hW => plain_rd (HRD6.out.keep hW) HLEN.out hb
    have HWY : Hid (∀ W, Kept w6 W → Calls Try.prog 11 #[.pointer (some ⟨y, 0, none⟩)] W fun e w' => e = .returned (.int .i64 ((N b).width : Int)) ∧ w' = W) := fun W hW => by
      rw [hSm.2.1]
      exact width_is ((hFy y hRy).1.keep hW)
    have HWX : Hid (∀ W, Kept w6 W → Calls Try.prog 11 #[.pointer (some ⟨b, 0, none⟩)] W fun e w' => e = .returned (.int .i64 ((N b).width : Int)) ∧ w' = W) := fun W hW => width_is ((HF6.out b hbm).1.keep hW)
    have HLFY : Hid (∀ W, Kept w6 W → Calls Try.prog 12 #[.pointer (some ⟨y, 0, none⟩)] W fun e w' => e = .returned (.int .i64 ((N b).leafs : Int)) ∧ w' = W) := fun W hW => by
      rw [hSm.2.2.1]
      exact leafs_is ((hFy y hRy).1.keep hW)
    have HLFX : Hid (∀ W, Kept w6 W → Calls Try.prog 12 #[.pointer (some ⟨b, 0, none⟩)] W fun e w' => e = .returned (.int .i64 ((N b).leafs : Int)) ∧ w' = W) := fun W hW => leafs_is ((HF6.out b hbm).1.keep hW)
    have HFLY : Hid (∀ W, Kept w6 W → Calls Try.prog 13 #[.pointer (some ⟨y, 0, none⟩)] W fun e w' => e = .returned (.bool (N b).failed) ∧ w' = W) := fun W hW => by
      rw [hSm.2.2.2.2]
      exact failed_is ((hFy y hRy).1.keep hW)
    have HFLX : Hid (∀ W, Kept w6 W → Calls Try.prog 13 #[.pointer (some ⟨b, 0, none⟩)] W fun e w' => e = .returned (.bool (N b).failed) ∧ w' = W) := fun W hW => failed_is ((HF6.out b hbm).1.keep hW)
    have HEQ : Hid ((((wl M (M y).size [y] 0).map fun q => M q.2).map noId).map rowL = (((wl N (N b).size [b] 0).map fun q => N q.2).map noId).map rowL) := by
      show _ = _
      rw [rows_map, rows_map]
      exact hSm.1.symm
    clear hFy hRy hSm hss H6 HTALL r5
    go_region_held3 (fun W => Kept w6 W) (first | assumption | exact drew_kept _ | exact gtrans (by assumption) (drew_kept _))
      ((first
      | (go_at_call 6; refine (HRY.out _ (by first | assumption | exact drew_kept _)).mono ?_; rintro e w7 ⟨a7, c7, rfl, hr7, hk7⟩; have k7 : Kept w6 w7 := gtrans (by first | assumption | exact drew_kept _) hk7)
      | (have _g := k8; clear _g; go_at_call 10; refine (HP2.out _ (by assumption)).mono ?_; rintro e w9 ⟨a9, c9, rfl, hr9, hk9⟩; have k9 : Kept w6 w9 := gtrans k8 hk9)
      | (go_at_call 10; refine (plain_rd hr7 HLY.out hb).mono ?_; rintro e w8 ⟨a8, c8, rfl, hr8, hk8⟩; have k8 : Kept w6 w8 := gtrans k7 hk8)
      | (go_at_call 9; refine (sameRows_is _ _ _ _ _ (hr8.keep hk9) hr9 HEQ.out).mono ?_; rintro e w10 ⟨rfl, hk10⟩; have k10 : Kept w6 w10 := gtrans k9 hk10)
      | (go_at_call 11; refine (HWY.out _ (by first | assumption | exact gtrans (by assumption) (drew_kept _))).mono ?_; rintro e w11 ⟨rfl, hw5⟩; have hw5 := hw5.symm; subst hw5)
      | (go_at_call 11; refine (HWX.out _ (by first | assumption | exact gtrans (by assumption) (drew_kept _))).mono ?_; rintro e w11 ⟨rfl, hw5⟩; have hw5 := hw5.symm; subst hw5)
      | (go_at_call 12; refine (HLFY.out _ (by first | assumption | exact gtrans (by assumption) (drew_kept _))).mono ?_; rintro e w11 ⟨rfl, hw5⟩; have hw5 := hw5.symm; subst hw5)
      | (go_at_call 12; refine (HLFX.out _ (by first | assumption | exact gtrans (by assumption) (drew_kept _))).mono ?_; rintro e w11 ⟨rfl, hw5⟩; have hw5 := hw5.symm; subst hw5)
      | (go_at_call 13; refine (HFLY.out _ (by first | assumption | exact gtrans (by assumption) (drew_kept _))).mono ?_; rintro e w11 ⟨rfl, hw5⟩; have hw5 := hw5.symm; subst hw5)
      | (go_at_call 13; refine (HFLX.out _ (by first | assumption | exact gtrans (by assumption) (drew_kept _))).mono ?_; rintro e w11 ⟨rfl, hw5⟩; have hw5 := hw5.symm; subst hw5)))
    have HK610 := hide1 (show Kept w6 w10 by assumption)
    clear k7 k8 k9 k10 hk7 hk8 hk9 hk10 hr7 hr8 hr9
    clear HRY HP2 HWY HWX HLFY HLFX HFLY HFLX HEQ HLY r6
    go_upto_region 18 with (first
      | (go_at_call 14; refine (walk_is _ _).mono ?_; rintro e w11 ⟨rfl, hw11⟩; have HW11 := hide1 hw11; clear hw11)
      | (go_at_call 15; refine (leaves_is _ _).mono ?_; rintro e w12 ⟨rfl, hw12⟩; have HW12 := hide1 hw12; have fn1 := func_nil 25 #[.pointer (some ⟨w10.heap.size, 0, none⟩)] w12; have fn2 := func_nil 27 #[.pointer (some ⟨w11.heap.size, 0, none⟩)] w12; clear hw12))
    -- RANGES
    obtain ⟨kb, hkb⟩ : ∃ kb, w12.heap.size = kb := ⟨_, rfl⟩
    obtain ⟨br, hbr⟩ : ∃ br, w10.heap.size = br := ⟨_, rfl⟩
    obtain ⟨bs, hbs⟩ : ∃ bs, w11.heap.size = bs := ⟨_, rfl⟩
    obtain ⟨w13, hw13⟩ : ∃ w13, w12.alloc (.cells #[.int .i64 0] 3) = w13 := ⟨_, rfl⟩
    have hk11 : Kept w10 w11 := by rw [HW11.out]; exact (Kept.refl w10).alloc _ _
    have hk12 : Kept w11 w12 := by rw [HW12.out]; exact (Kept.refl w11).alloc _ _
    have hk13 : Kept w12 w13 := by rw [← hw13]; exact (Kept.refl w12).alloc _ _
    have hs11 : w11.heap.size = w10.heap.size + 1 := by rw [HW11.out]; simp
    have hs12 : w12.heap.size = w11.heap.size + 1 := by rw [HW12.out]; simp
    have hs13' : w13.heap.size = w12.heap.size + 1 := by rw [← hw13]; simp
    have hx11 : w11.heap[w10.heap.size]? = some (.cells #[.pointer (some ⟨b, 0, none⟩)] 27 (0, 0)) := by rw [HW11.out]; exact World.alloc_heap_new w10 _
    have hx12 : w12.heap[w11.heap.size]? = some (.cells #[.pointer (some ⟨b, 0, none⟩)] 27 (0, 0)) := by rw [HW12.out]; exact World.alloc_heap_new w11 _
    have hx13 : w13.heap[w12.heap.size]? = some (.cells #[.int .i64 0] 3 (0, 0)) := by rw [← hw13]; exact World.alloc_heap_new w12 _
    have HBR : Hid (w13.heap[br]? = some (.cells #[.pointer (some ⟨b, 0, none⟩)] 27 (0, 0))) := by rw [← hbr]; exact (hk13.2.2.2.2 _ (by omega)).trans ((hk12.2.2.2.2 _ (by omega)).trans hx11)
    have HBS : Hid (w13.heap[bs]? = some (.cells #[.pointer (some ⟨b, 0, none⟩)] 27 (0, 0))) := by rw [← hbs]; exact (hk13.2.2.2.2 _ (by omega)).trans hx12
    have HKBX : Hid (w13.heap[kb]? = some (.cells #[.int .i64 0] 3 (0, 0))) := by rw [← hkb]; exact hx13
    have HK13 : Hid (Kept w6 w13) := gtrans HK610.out (gtrans hk11 (gtrans hk12 hk13))
    have hz6 : w6.heap.size ≤ br := by rw [← hbr]; exact HK610.out.size
    have HSS : Hid (bs = br + 1 ∧ kb = br + 2 ∧ w13.heap.size = br + 3) := by show _ ∧ _; omega
    obtain ⟨rc, hrc⟩ : ∃ rc, w.heap.size = rc := ⟨_, rfl⟩
    have HRCE := hide1 hrc
    rw [hbr, hkb, hbs, hrc, hw13]
    clear hk11 hk12 hk13 hs11 hs12 hs13' hx11 hx12 hx13 hkb hbr hbs hw13 hrc HW11 HW12 fn1 fn2
    have HF13 : Hid (Forest (fun c => c ∈ P) N w1.heap.size w13) := HF6.out.kb (HK13.out.kb (by omega))
    have HSEQ := hide1 (walk_seq 2 (by omega) (fun c => c ∈ P) N w1.heap.size br b w13 HF13.out hbm (Nat.le_trans hs16 HK13.out.size) (by have := HSS.out; omega) (by simp [World.cell?, HBR.out]))
    have HI0 : Hid (WkI w13 kb (fun _ => False) [] w13) := ⟨fun _ h => h.elim, (Kept.refl w13).tbut kb, HKBX.out⟩
    have HRD13 := hide1 (HRD6.out.keep HK13.out)
    have HX13 : Hid (w13.heap[rb]? = some (.cells #[.slice va n vc] 34 (0, 0))) := (HK13.out.2.2.2.2 rb (by have := HK6.out.2.2.2.1; omega)).trans HX6.out
    refine frame_toR (frR_of (rc := rc) (b := b) (rb := rb) (br := br) (bs := bs) (kb := kb) _ (by kernel_rfl)) ?_
    rintro a' ⟨T, rfl⟩
    refine (wpIn_wide (n := 3)).1 ?_
    refine range_W rfl (by omega) (gf := 25) (lb := #[.pointer (some ⟨br, 0, none⟩)]) rfl trivial (enters_of Try.func25 (by kernel_rfl) rfl) HSEQ.out ?kp KX.trans (fun _ => rfl)
      (WkI w13 kb) (fun _ _ _ => False) (WkI.stable (by have := HSS.out; omega)) (fun _ _ _ _ _ h => h.elim) HI0.out
      (fun x => { tmps := List.toArray (T 0 :: T 1 :: (.pointer (some ⟨rc, 0, none⟩)) :: T 3 :: T 4 :: T 5 :: (.pointer (some ⟨b, 0, none⟩)) :: (.pointer (some ⟨rb, 0, none⟩)) :: T 8 :: T 9 :: T 10 :: (.func (.func 25) #[] #[.pointer (some ⟨br, 0, none⟩)]) :: (.func (.func 27) #[] #[.pointer (some ⟨bs, 0, none⟩)]) :: (.pointer (some ⟨kb, 0, none⟩)) :: T 14 :: (.pointer (some ⟨x.2, 0, none⟩)) :: T 16 :: T 17 :: T 18 :: T 19 :: T 20 :: T 21 :: T 22 :: T 23 :: T 24 :: T 25 :: T 26 :: T 27 :: T 28 :: T 29 :: T 30 :: T 31 :: T 32 :: T 33 :: T 34 :: T 35 :: T 36 :: T 37 :: T 38 :: T 39 :: T 40 :: T 41 :: T 42 :: T 43 :: T 44 :: T 45 :: T 46 :: T 47 :: T 48 :: T 49 :: T 50 :: T 51 :: T 52 :: T 53 :: T 54 :: T 55 :: T 56 :: T 57 :: T 58 :: T 59 :: T 60 :: T 61 :: T 62 :: T 63 :: T 64 :: T 65 :: T 66 :: T 67 :: T 68 :: T 69 :: T 70 :: T 71 :: T 72 :: T 73 :: T 74 :: T 75 :: T 76 :: T 77 :: T 78 :: T 79 :: T 80 :: T 81 :: T 82 :: T 83 :: T 84 :: T 85 :: T 86 :: T 87 :: T 88 :: T 89 :: T 90 :: (.func (.func 25) #[] #[.pointer (some ⟨br, 0, none⟩)]) :: (.int .i64 (x.1 : Int)) :: (.pointer (some ⟨x.2, 0, none⟩)) :: T 94 :: T 95 :: T 96 :: T 97 :: T 98 :: T 99 :: T 100 :: T 101 :: T 102 :: T 103 :: T 104 :: T 105 :: T 106 :: T 107 :: T 108 :: T 109 :: T 110 :: T 111 :: T 112 :: T 113 :: T 114 :: T 115 :: T 116 :: T 117 :: T 118 :: T 119 :: T 120 :: T 121 :: T 122 :: T 123 :: T 124 :: T 125 :: T 126 :: T 127 :: T 128 :: T 129 :: T 130 :: T 131 :: T 132 :: T 133 :: T 134 :: T 135 :: T 136 :: T 137 :: T 138 :: T 139 :: T 140 :: T 141 :: T 142 :: T 143 :: T 144 :: T 145 :: T 146 :: T 147 :: T 148 :: T 149 :: T 150 :: T 151 :: T 152 :: T 153 :: T 154 :: T 155 :: T 156 :: T 157 :: T 158 :: T 159 :: T 160 :: T 161 :: T 162 :: T 163 :: T 164 :: T 165 :: T 166 :: T 167 :: T 168 :: T 169 :: T 170 :: T 171 :: T 172 :: T 173 :: T 174 :: T 175 :: T 176 :: []), defers := [] })
      ?assign ?body ?done (fun _ _ _ _ _ _ h => h.elim)
    case kp => exact fun A A' h1 h2 h3 => ⟨h2, fun k hk => h3 k (by have := HSS.out; omega)⟩
    case assign =>
      intro l x W K hK
      have HK := hide1 hK
      clear hK
      dsimp only [encW]
      gi_wp2
      exact HK.out
    case body =>
      rintro TT pre x W ⟨g1, g2, g3⟩ hpre hTb hT0 hT1 hsz hloop
      obtain ⟨at9, c⟩ := x
      obtain ⟨pl, hpl⟩ : ∃ pl, pre.length = pl := ⟨_, rfl⟩
      have hat : (wl N (N b).size [b] 0)[pl]? = some (at9, c) := by
        obtain ⟨tt, ht⟩ := hpre
        rw [← ht, ← hpl]
        simp
      have hcP : c ∈ P := wl_mem (R := fun c => c ∈ P) (fun q hq => (HF13.out q hq).2.2.2.1) _ _ _ (fun p hp => by rw [List.mem_singleton.1 hp]; exact hbm) _ (List.mem_of_getElem? hat)
      have hpn : pl < n := by
        have h1 := (List.getElem?_eq_some_iff.1 hat).1
        have h2 := HLEN.out
        rw [List.length_map] at h2
        omega
      obtain ⟨qa, qc, e1, _, e3⟩ := HRD13.out
      injection e1 with e11 e12 e13
      subst e11
      clear e12 e13
      obtain ⟨g, hva, hcl⟩ := e3 pl (N c) (by rw [List.getElem?_map, hat]; rfl)
      subst hva
      have hgk : g ≠ kb := by
        rintro rfl
        have h8 := hcl 1 _ rfl
        simp [World.cell?, HKBX.out] at h8
      have hss := HSS.out
      have hk6s := HK6.out.2.2.2.1
      have d0 := g2.cell hgk (hcl 0 _ rfl)
      have d4 := g2.cell hgk (hcl 4 _ rfl)
      have d5 := g2.cell hgk (hcl 5 _ rfl)
      simp only [Nat.add_zero] at d0
      have hrbW := (g2.2.2.2.2 rb (by omega) (by omega)).trans HX13.out
      have rW : W.cell? ⟨rb, 0, none⟩ = some (.slice (some ⟨g, 0, none⟩) n vc) := by simp [World.cell?, hrbW]
      have k0 : W.cell? ⟨kb, 0, none⟩ = some (.int .i64 (pl : Int)) := by simp [World.cell?, g3, hpl]
      have hNW : NodeAt w1.heap.size W c (N c) := (HF13.out c hcP).1.kb ⟨g2.2.2.2.1, fun k hk => g2.2.2.2.2 k (by omega) (by omega)⟩
      have HNUM : Hid (∀ n, Calls Try.prog 16 #[.pointer (some ⟨c, 0, none⟩)] (W.drewN n) fun e w' => e = .returned (.int .i64 ((N c).num : Int)) ∧ ∃ m, w' = W.drewN m) := fun n => (number_is (hNW.keep (drewN_kept _ _))).mono fun _ _ h => ⟨h.1, n, h.2⟩
      have HCNT : Hid (∀ n, Calls Try.prog 17 #[.pointer (some ⟨c, 0, none⟩)] (W.drewN n) fun e w' => e = .returned (.int .i64 ((N c).kids.length : Int)) ∧ ∃ m, w' = W.drewN m) := fun n => (count_n (hNW.keep (drewN_kept _ _))).mono fun _ _ h => ⟨h.1, n, h.2⟩
      have HKND : Hid (∀ n, Calls Try.prog 18 #[.pointer (some ⟨c, 0, none⟩)] (W.drewN n) fun e w' => e = .returned (.int .i64 (N c).kind) ∧ ∃ m, w' = W.drewN m) := fun n => (kind_is (hNW.keep (drewN_kept _ _))).mono fun _ _ h => ⟨h.1, n, h.2⟩
      have hplI : (pl : Int) < (n : Int) := by omega
      have hplI2 : ¬ (n : Int) ≤ (pl : Int) := by omega
      have hplN : ¬ n ≤ pl := by omega
      have hd1 : decide ((n : Int) ≤ (pl : Int)) = false := by rw [decide_eq_false_iff_not]; omega
      have hd2 : decide (n ≤ pl) = false := by rw [decide_eq_false_iff_not]; omega
      have HTB := hide1 hTb
      have HG1 := hide1 g1
      have HG2 := hide1 g2
      have HG3 := hide1 g3
      have HPL := hide1 hpl
      clear hpre hTb hT0 hT1 hsz hloop g1 g2 g3 hat hcl e3 hrbW hNW hss hk6s hpl hgk
      dsimp only
      gi_wp2_with fail
      refine region_quiet_round (by kernel_rfl) (by kernel_rfl) (by kernel_rfl) ?_
      repeat (gi_big_quiet_step ((first
        | (gi_at_call 16; exact callsIn_wide.2 (HNUM.out _))
        | (gi_at_call 17; exact callsIn_wide.2 (HCNT.out _))
        | (gi_at_call 18; exact callsIn_wide.2 (HKND.out _)))))
      refine wpQuietIn_nil ?_
      intro _ hw'
      obtain ⟨nq, hw''⟩ := hw'
      subst hw''
      obtain ⟨wy, hwy⟩ : ∃ wy, W.drewN nq = wy := ⟨_, rfl⟩
      have HKy : Hid (Kept W wy) := by rw [← hwy]; exact drewN_kept _ _
      rw [hwy]
      have hgy : wy.heap[kb]? = some (.cells #[.int .i64 (pl : Int)] 3 (0, 0)) := by
        have h3 := HG3.out
        rw [HPL.out] at h3
        exact (HKy.out.2.2.2.2 kb (Array.getElem?_eq_some_iff.1 h3).1).trans h3
      have ky : wy.cell? ⟨kb, 0, none⟩ = some (.int .i64 (pl : Int)) := by simp [World.cell?, hgy]
      have kz : wy.frozen? ⟨kb, 0, none⟩ = false := by simp [World.frozen?, hgy]
      have hkl : kb < wy.heap.size := (Array.getElem?_eq_some_iff.1 hgy).1
      have hplb : (pl : Int) ≤ 4000 := by omega
      have HGY := hide1 hgy
      clear hwy k0 d0 d4 d5 rW hgy
      gi_wp2_with fail
      have hss := HSS.out
      have hst := setCell_but wy kb 0 (.int .i64 ((pl : Int) + 1))
      have hnk : ∀ k, TT k → k ≠ kb := fun k hk => by have := HG1.out k hk; omega
      have hgs := HG2.out.2.2.2.1
      have hys := HKy.out.size
      refine ⟨Nat.le_trans hys hst.2.2.2.1, fun k hk => (Below.heap_setCell _ _ _ _ (hnk k hk)).trans (HKy.out.2.2.2.2 k (HTB.out k hk).2), ⟨Nat.le_trans hys hst.2.2.2.1, fun k hk => (Below.heap_setCell _ _ _ _ (show k ≠ kb by omega)).trans (HKy.out.2.2.2.2 k (by omega))⟩, HG1.out, (HG2.out.trans (HKy.out.tbut kb)).trans hst, ?_⟩
      have he := Option.some.inj ((Array.getElem?_eq_getElem hkl).symm.trans HGY.out)
      rw [List.length_append, HPL.out]
      simp [World.setCell, Array.getElem_modify, hkl, he]
    case done =>
      rintro D TT W hD ⟨g1, g2, g3⟩ hdef hTb hT0 hT1
      dsimp only
      go_wp2_with fail
      obtain ⟨ab, hab⟩ : ∃ ab, W.heap.size = ab := ⟨_, rfl⟩
      obtain ⟨w14, hw14⟩ : ∃ w14, (W.alloc (.cells #[.int .i64 0] 3)).alloc (.cells #[.int .i64 0] 3) = w14 := ⟨_, rfl⟩
      have hk14 : Kept W w14 := by rw [← hw14]; exact ((Kept.refl W).alloc _ _).alloc _ _
      have hs14 : w14.heap.size = ab + 2 := by rw [← hw14, ← hab]; simp
      have hxa : w14.heap[ab]? = some (.cells #[.int .i64 0] 3 (0, 0)) := by
        rw [← hw14, ← hab]
        exact (heap_alloc_old _ _ (by simp)).trans (World.alloc_heap_new W _)
      have hxl : w14.heap[ab + 1]? = some (.cells #[.int .i64 0] 3 (0, 0)) := by
        have h1 := World.alloc_heap_new (W.alloc (.cells #[.int .i64 0] 3)) (.cells #[.int .i64 0] 3)
        rw [show (W.alloc (.cells #[.int .i64 0] 3)).heap.size = ab + 1 by rw [← hab]; simp] at h1
        rw [← hw14]
        exact h1
      have hss := HSS.out
      have hg2s := g2.2.2.2.1
      have HBS14 : Hid (w14.heap[bs]? = some (.cells #[.pointer (some ⟨b, 0, none⟩)] 27 (0, 0))) := (hk14.2.2.2.2 bs (by omega)).trans ((g2.2.2.2.2 bs (by omega) (by omega)).trans HBS.out)
      have HK14 : Hid (KeptBut kb w13 w14) := g2.trans (hk14.tbut kb)
      have HKB14 : Hid (w14.heap[kb]? = some (.cells #[.int .i64 (n : Int)] 3 (0, 0))) := by
        have h2 := HLEN.out
        rw [List.length_map] at h2
        rw [h2] at g3
        exact (hk14.2.2.2.2 kb (by omega)).trans g3
      have HDF : Hid (w14.heap[D]? = some (.deferred (some []))) := (hk14.2.2.2.2 D (Array.getElem?_eq_some_iff.1 hdef).1).trans hdef
      have hDab : D < ab := by rw [← hab]; exact (Array.getElem?_eq_some_iff.1 hdef).1
      have HF14 : Hid (Forest (fun c => c ∈ P) N w1.heap.size w14) := HF13.out.kb ⟨HK14.out.2.2.2.1, fun k hk => HK14.out.2.2.2.2 k (by omega) (by omega)⟩
      have HSEQ2 := hide1 (leaves_seq 2 (by omega) (fun c => c ∈ P) N w1.heap.size bs b w14 HF14.out hbm (by omega) (by omega) (by simp [World.cell?, HBS14.out]))
      have HI2 : Hid (AtI N w14 ab (ab + 1) (fun _ => False) [] w14) := ⟨fun _ h => h.elim, ⟨rfl, rfl, rfl, Nat.le_refl _, fun _ _ _ _ => rfl⟩, hxa, hxl⟩
      have HLO := hide1 (leaves_ok HF13.out (leafsum_of HMD.out) (N b).size [b] 0 (fun p hp => by rw [List.mem_singleton.1 hp]; exact hbm) (by simp [sizeS]))
      rw [hab, hw14]
      have HS14 := hide1 hs14
      have hbsab : bs < ab := by omega
      have hkbab : kb < ab := by omega
      have hw1ab : w1.heap.size ≤ ab := by omega
      have hrbab : rb < ab := by have := HK6.out.2.2.2.1; omega
      have hbkne : bs ≠ kb := by omega
      clear hk14 hxa hxl hab hw14 g1 g2 g3 hdef hTb hT0 hT1 hss hs14 hg2s
      refine frame_toR (frS_of (rc := rc) (b := b) (rb := rb) (bs := bs) (kb := kb) (ab := ab) (lb := ab + 1) _ (by kernel_rfl)) ?_
      rintro a' ⟨T, rfl⟩
      refine (wpIn_wide (n := 3)).1 ?_
      refine range_W rfl (by omega) (gf := 27) (lb := #[.pointer (some ⟨bs, 0, none⟩)]) rfl trivial (enters_of Try.func27 (by kernel_rfl) rfl) HSEQ2.out ?kp2 KX.trans (fun _ => rfl)
        (AtI N w14 ab (ab + 1)) (fun _ _ _ => False) (AtI.stable (by have := HS14.out; omega) (by have := HS14.out; omega)) (fun _ _ _ _ _ h => h.elim) HI2.out
        (fun x => { tmps := List.toArray (T 0 :: T 1 :: (.pointer (some ⟨rc, 0, none⟩)) :: T 3 :: T 4 :: T 5 :: (.pointer (some ⟨b, 0, none⟩)) :: (.pointer (some ⟨rb, 0, none⟩)) :: T 8 :: T 9 :: T 10 :: T 11 :: (.func (.func 27) #[] #[.pointer (some ⟨bs, 0, none⟩)]) :: (.pointer (some ⟨kb, 0, none⟩)) :: T 14 :: T 15 :: (.pointer (some ⟨ab, 0, none⟩)) :: (.pointer (some ⟨ab + 1, 0, none⟩)) :: (.int .i64 (x.1 : Int)) :: (.pointer (some ⟨x.2, 0, none⟩)) :: T 20 :: T 21 :: T 22 :: T 23 :: T 24 :: T 25 :: T 26 :: T 27 :: T 28 :: T 29 :: T 30 :: T 31 :: T 32 :: T 33 :: T 34 :: T 35 :: T 36 :: T 37 :: T 38 :: T 39 :: T 40 :: T 41 :: T 42 :: T 43 :: T 44 :: T 45 :: T 46 :: T 47 :: T 48 :: T 49 :: T 50 :: T 51 :: T 52 :: T 53 :: T 54 :: T 55 :: T 56 :: T 57 :: T 58 :: T 59 :: T 60 :: T 61 :: T 62 :: T 63 :: T 64 :: T 65 :: T 66 :: T 67 :: T 68 :: T 69 :: T 70 :: T 71 :: T 72 :: T 73 :: T 74 :: T 75 :: T 76 :: T 77 :: T 78 :: T 79 :: T 80 :: T 81 :: T 82 :: T 83 :: T 84 :: T 85 :: T 86 :: T 87 :: T 88 :: T 89 :: T 90 :: T 91 :: T 92 :: T 93 :: T 94 :: T 95 :: T 96 :: T 97 :: T 98 :: T 99 :: T 100 :: T 101 :: T 102 :: T 103 :: T 104 :: T 105 :: T 106 :: T 107 :: T 108 :: T 109 :: T 110 :: T 111 :: T 112 :: T 113 :: T 114 :: T 115 :: T 116 :: T 117 :: T 118 :: T 119 :: T 120 :: T 121 :: T 122 :: T 123 :: T 124 :: T 125 :: T 126 :: T 127 :: T 128 :: T 129 :: T 130 :: T 131 :: T 132 :: T 133 :: (.func (.func 27) #[] #[.pointer (some ⟨bs, 0, none⟩)]) :: (.int .i64 (x.1 : Int)) :: (.pointer (some ⟨x.2, 0, none⟩)) :: T 137 :: T 138 :: T 139 :: T 140 :: T 141 :: T 142 :: T 143 :: T 144 :: T 145 :: T 146 :: T 147 :: T 148 :: T 149 :: T 150 :: T 151 :: T 152 :: T 153 :: T 154 :: T 155 :: T 156 :: T 157 :: T 158 :: T 159 :: T 160 :: T 161 :: T 162 :: T 163 :: T 164 :: T 165 :: T 166 :: T 167 :: T 168 :: T 169 :: T 170 :: T 171 :: T 172 :: T 173 :: T 174 :: T 175 :: T 176 :: []), defers := [] })
        ?assign2 ?body2 ?done2 (fun _ _ _ _ _ _ h => h.elim)
      case kp2 => exact fun A A' h1 h2 h3 => ⟨h2, fun k hk => h3 k (by have := HS14.out; omega)⟩
      case assign2 =>
        intro l x W K hK
        have HK := hide1 hK
        clear hK
        dsimp only [encW]
        gi_wp2
        exact HK.out
      case body2 =>
        rintro TT2 pre x W2 hI2 hpre hTb hT0 hT1 hsz hloop
        obtain ⟨at9, c⟩ := x
        obtain ⟨tt, ht⟩ := hpre
        have hmem : (at9, c) ∈ (wl N (N b).size [b] 0).filter (leafB N) := by rw [← ht]; simp
        have hmw := (List.mem_filter.1 hmem).1
        have hkc : (N c).kind = 1 := by have := (List.mem_filter.1 hmem).2; simpa [leafB] using this
        have hcP : c ∈ P := wl_mem (R := fun c => c ∈ P) (fun q hq => (HF13.out q hq).2.2.2.1) _ _ _ (fun p hp => by rw [List.mem_singleton.1 hp]; exact hbm) _ hmw
        have hlo := HLO.out.2
        have hat : at9 = 0 + wsum N pre := LvOk.at pre (at9, c) tt 0 _ (by rw [ht]; exact hlo)
        have hend := LvOk.end _ _ _ hlo
        obtain ⟨S, hS⟩ : ∃ S, wsum N pre = S := ⟨_, rfl⟩
        obtain ⟨wd, hwd⟩ : ∃ wd, (N c).width = wd := ⟨_, rfl⟩
        have hbound : S + wd ≤ 4000 * 524288 := by
          rw [← ht] at hend
          have e1 : wsum N (pre ++ [(at9, c)] ++ tt) = wsum N pre + (N c).width + wsum N tt := by simp [wsum, Nat.add_assoc]
          have e2 : widthS N [b] = (N b).width := by simp [widthS]
          have h9 := (HFO.out b hbm).2.1
          unfold NdOk at h9
          have h10 := HN.out
          rw [e1, e2] at hend
          have : (N b).width ≤ n * 524288 := by rw [← h10]; exact h9.2.2.1
          have : n * 524288 ≤ 4000 * 524288 := Nat.mul_le_mul_right _ hb
          omega
        rw [Nat.zero_add, hS] at hat
        subst hat
        obtain ⟨pl, hpl⟩ : ∃ pl, pre.length = pl := ⟨_, rfl⟩
        have hplb : pl ≤ 4194304 := by
          have h1 : ((wl N (N b).size [b] 0).filter (leafB N)).length ≤ (wl N (N b).size [b] 0).length := List.length_filter_le _ _
          have h2 := HLEN.out
          rw [List.length_map] at h2
          rw [← ht] at h1
          simp only [List.length_append] at h1
          omega
        obtain ⟨j1, j2, j3, j4⟩ := hI2
        rw [hS] at j3
        rw [hpl] at j4
        have k2 : W2.cell? ⟨ab, 0, none⟩ = some (.int .i64 (at9 : Int)) := by simp [World.cell?, j3]
        have kz2 : W2.frozen? ⟨ab, 0, none⟩ = false := by simp [World.frozen?, j3]
        have l2 : W2.cell? ⟨ab + 1, 0, none⟩ = some (.int .i64 (pl : Int)) := by simp [World.cell?, j4]
        have lz2 : W2.frozen? ⟨ab + 1, 0, none⟩ = false := by simp [World.frozen?, j4]
        have hal2 : ab < W2.heap.size := (Array.getElem?_eq_some_iff.1 j3).1
        have hll2 : ab + 1 < W2.heap.size := (Array.getElem?_eq_some_iff.1 j4).1
        have hs14 := HS14.out
        have hNW2 : NodeAt w1.heap.size W2 c (N c) := (HF14.out c hcP).1.kb ⟨j2.2.2.2.1, fun k hk => j2.2.2.2.2 k (by omega) (by omega) (by omega)⟩
        have HKC : Hid (Calls Try.prog 18 #[.pointer (some ⟨c, 0, none⟩)] W2 fun e w' => e = .returned (.int .i64 1) ∧ w' = W2) := by rw [← hkc]; exact kind_is hNW2
        have HWD : Hid (Calls Try.prog 11 #[.pointer (some ⟨c, 0, none⟩)] W2.drew fun e w' => e = .returned (.int .i64 (wd : Int)) ∧ w' = W2.drew) := by rw [← hwd]; exact width_is (hNW2.keep (drew_kept _))
        have HFIN2 := hide1 (at_fin (N := N) (w7 := w14) (W := W2) (wy := W2.drew) (ab := ab) (lb := ab + 1) (B := w1.heap.size) (bs := bs) (pl := pl) (T := TT2) (pre := pre) (x := (at9, c)) (by omega) (by omega) rfl hw1ab hbsab ⟨j1, j2, by rw [hS]; exact j3, by rw [hpl]; exact j4⟩ (fun k hk => (hTb k hk).2) (drew_kept _) hpl)
        dsimp only at HFIN2
        rw [hS, hwd] at HFIN2
        have HWDE := hide1 hwd
        have hSI : (at9 : Int) + (wd : Int) ≤ 4611686018427387904 := by omega
        have hplI : (pl : Int) ≤ 4194304 := by omega
        clear hs14 j1 j2 j3 j4 hNW2 hTb hT0 hT1 hsz hloop ht hmem hmw hkc hlo hend hS hpl hwd hbound hplb
        dsimp only
        gi_wp2_with (gi_at_call 18; refine (CallsIn.inRound _ (callsIn_wide.2 HKC.out)).mono ?_; rintro e w5 ⟨rfl, hw5⟩; have hw5 := hw5.symm; subst hw5)
        refine wpIn_region_any (by kernel_rfl) ?_
        change wpAnyIn _ _ _ _ _ _ _ _ _ (World.drew _)
        refine wpAnyIn_ready (rs := [0, 1]) (by kernel_rfl) (by simp) ?_
        refine (AllReadyIn.cons (i := 0) rfl (fun K hK => ?_) (AllReadyIn.cons (i := 1) rfl (fun K hK => ?_) AllReadyIn.nil))
        · go_simp
          refine hK _ _ ?_
          clear hK K
          try simp only [Act.put, List.setIfInBounds_toArray, List.set_cons_zero, List.set_cons_succ]
          refine wpAnyIn_ready (rs := [1]) (by kernel_rfl) (by simp) ?_
          refine (AllReadyIn.cons (i := 1) rfl (fun K hK => ?_) AllReadyIn.nil)
          go_simp
          refine hK _ _ ?_
          clear hK K
          try simp only [Act.put, List.setIfInBounds_toArray, List.set_cons_zero, List.set_cons_succ]
          refine wpAnyIn_ready (rs := [2]) (by kernel_rfl) (by simp) ?_
          refine (AllReadyIn.cons (i := 2) rfl (fun K hK => ?_) AllReadyIn.nil)
          go_simp
          refine (CallsIn.inRound _ (callsIn_wide.2 HWD.out)).mono ?_
          rintro e w6 ⟨rfl, hw6⟩
          have hw6 := hw6.symm
          subst hw6
          try dsimp only
          refine hK _ _ ?_
          clear hK K
          try simp only [Act.put, List.setIfInBounds_toArray, List.set_cons_zero, List.set_cons_succ]
          refine wpAnyIn_ready (rs := [3]) (by kernel_rfl) (by simp) ?_
          refine (AllReadyIn.cons (i := 3) rfl (fun K hK => ?_) AllReadyIn.nil)
          go_simp
          refine hK _ _ ?_
          clear hK K
          try simp only [Act.put, List.setIfInBounds_toArray, List.set_cons_zero, List.set_cons_succ]
          refine wpAnyIn_ready (rs := [4]) (by kernel_rfl) (by simp) ?_
          refine (AllReadyIn.cons (i := 4) rfl (fun K hK => ?_) AllReadyIn.nil)
          go_simp
          refine hK _ _ ?_
          clear hK K
          try simp only [Act.put, List.setIfInBounds_toArray, List.set_cons_zero, List.set_cons_succ]
          refine wpAnyIn_done (by kernel_rfl) ?_ _
          gi_wp2_with fail
          exact HFIN2.out
        · go_simp
          refine hK _ _ ?_
          clear hK K
          try simp only [Act.put, List.setIfInBounds_toArray, List.set_cons_zero, List.set_cons_succ]
          refine wpAnyIn_ready (rs := [0, 2]) (by kernel_rfl) (by simp) ?_
          refine (AllReadyIn.cons (i := 0) rfl (fun K hK => ?_) (AllReadyIn.cons (i := 2) rfl (fun K hK => ?_) AllReadyIn.nil))
          · go_simp
            refine hK _ _ ?_
            clear hK K
            try simp only [Act.put, List.setIfInBounds_toArray, List.set_cons_zero, List.set_cons_succ]
            refine wpAnyIn_ready (rs := [2]) (by kernel_rfl) (by simp) ?_
            refine (AllReadyIn.cons (i := 2) rfl (fun K hK => ?_) AllReadyIn.nil)
            go_simp
            refine (CallsIn.inRound _ (callsIn_wide.2 HWD.out)).mono ?_
            rintro e w6 ⟨rfl, hw6⟩
            have hw6 := hw6.symm
            subst hw6
            try dsimp only
            refine hK _ _ ?_
            clear hK K
            try simp only [Act.put, List.setIfInBounds_toArray, List.set_cons_zero, List.set_cons_succ]
            refine wpAnyIn_ready (rs := [3]) (by kernel_rfl) (by simp) ?_
            refine (AllReadyIn.cons (i := 3) rfl (fun K hK => ?_) AllReadyIn.nil)
            go_simp
            refine hK _ _ ?_
            clear hK K
            try simp only [Act.put, List.setIfInBounds_toArray, List.set_cons_zero, List.set_cons_succ]
            refine wpAnyIn_ready (rs := [4]) (by kernel_rfl) (by simp) ?_
            refine (AllReadyIn.cons (i := 4) rfl (fun K hK => ?_) AllReadyIn.nil)
            go_simp
            refine hK _ _ ?_
            clear hK K
            try simp only [Act.put, List.setIfInBounds_toArray, List.set_cons_zero, List.set_cons_succ]
            refine wpAnyIn_done (by kernel_rfl) ?_ _
            gi_wp2_with fail
            exact HFIN2.out
          · go_simp
            refine (CallsIn.inRound _ (callsIn_wide.2 HWD.out)).mono ?_
            rintro e w6 ⟨rfl, hw6⟩
            have hw6 := hw6.symm
            subst hw6
            try dsimp only
            refine hK _ _ ?_
            clear hK K
            try simp only [Act.put, List.setIfInBounds_toArray, List.set_cons_zero, List.set_cons_succ]
            refine wpAnyIn_ready (rs := [0]) (by kernel_rfl) (by simp) ?_
            refine (AllReadyIn.cons (i := 0) rfl (fun K hK => ?_) AllReadyIn.nil)
            go_simp
            refine hK _ _ ?_
            clear hK K
            try simp only [Act.put, List.setIfInBounds_toArray, List.set_cons_zero, List.set_cons_succ]
            refine wpAnyIn_ready (rs := [3]) (by kernel_rfl) (by simp) ?_
            refine (AllReadyIn.cons (i := 3) rfl (fun K hK => ?_) AllReadyIn.nil)
            go_simp
            refine hK _ _ ?_
            clear hK K
            try simp only [Act.put, List.setIfInBounds_toArray, List.set_cons_zero, List.set_cons_succ]
            refine wpAnyIn_ready (rs := [4]) (by kernel_rfl) (by simp) ?_
            refine (AllReadyIn.cons (i := 4) rfl (fun K hK => ?_) AllReadyIn.nil)
            go_simp
            refine hK _ _ ?_
            clear hK K
            try simp only [Act.put, List.setIfInBounds_toArray, List.set_cons_zero, List.set_cons_succ]
            refine wpAnyIn_done (by kernel_rfl) ?_ _
            gi_wp2_with fail
            exact HFIN2.out
      case done2 =>
        rintro D2 TT2 W2 hD2 ⟨g1, g2, g3, g4⟩ hdef hTb hT0 hT1
        dsimp only
        have hs14 := HS14.out
        have hlo := HLO.out
        have hend := LvOk.end _ _ _ hlo.2
        rw [Nat.zero_add, Nat.zero_add, show widthS N [b] = (N b).width by simp [widthS]] at hend
        have hlf : ((wl N (N b).size [b] 0).filter (leafB N)).length = (N b).leafs := by rw [hlo.1]; simp [leafS]
        rw [hend] at g3
        rw [hlf] at g4
        have hss := HSS.out
        have hrbW := (g2.2.2.2.2 rb (by omega) (by omega) (by omega)).trans ((HK14.out.2.2.2.2 rb (by have := HK6.out.2.2.2.1; omega) (by have := HK6.out.2.2.2.1; omega)).trans HX13.out)
        have hkbW := (g2.2.2.2.2 kb (by omega) (by omega) (by omega)).trans HKB14.out
        have HN2 : Hid (NodeAt w1.heap.size W2 b (N b)) := (HF14.out b hbm).1.kb ⟨g2.2.2.2.1, fun k hk => g2.2.2.2.2 k (by omega) (by omega) (by omega)⟩
        have HSI : Hid (∀ W, Kept W2 W → Calls Try.prog 19 #[.pointer (some ⟨b, 0, none⟩)] W fun e w' => e = .returned (.int .i64 (n : Int)) ∧ w' = W) := fun W hW => by
          rw [← HN.out]
          exact size_is (HN2.out.keep hW)
        have HLI : Hid (∀ W, Kept W2 W → Calls Try.prog 12 #[.pointer (some ⟨b, 0, none⟩)] W fun e w' => e = .returned (.int .i64 ((N b).leafs : Int)) ∧ w' = W) := fun W hW => leafs_is (HN2.out.keep hW)
        have HWI : Hid (∀ W, Kept W2 W → Calls Try.prog 11 #[.pointer (some ⟨b, 0, none⟩)] W fun e w' => e = .returned (.int .i64 ((N b).width : Int)) ∧ w' = W) := fun W hW => width_is (HN2.out.keep hW)
        have HRCW : Hid (W2.heap[rc]? = some (.cells #[.bool false] 4 (0, 0))) := by
          have h1 := HB1.out
          rw [HRCE.out] at h1
          have hrc1 : rc < w1.heap.size := (Array.getElem?_eq_some_iff.1 h1).1
          have h6s := HK6.out.2.2.2.1
          have h15 := HK15.out.size
          exact (g2.2.2.2.2 rc (by omega) (by omega) (by omega)).trans ((HK14.out.2.2.2.2 rc (by omega) (by omega)).trans ((HK13.out.2.2.2.2 rc (by omega)).trans ((HK6.out.2.2.2.2 rc (by omega) (by omega)).trans ((HK15.out.2.2.2.2 rc hrc1).trans h1))))
        have HKW2 : Hid (Kept w W2) := by
          have hz := HSZ.out
          have h1s := HK1.out.size
          have h6s := HK6.out.2.2.2.1
          have h15 := HK15.out.size
          have a1 : Kept w w6 := KeptBut.new (gtrans HKZ.out (gtrans HK1.out HK15.out)) HK6.out (by omega)
          have a2 : Kept w w14 := KeptBut.new (gtrans a1 HK13.out) HK14.out (by omega)
          exact ⟨g2.1.trans a2.1, g2.2.1.trans a2.2.1, g2.2.2.1.trans a2.2.2.1, Nat.le_trans a2.2.2.2.1 g2.2.2.2.1, fun k hk => (g2.2.2.2.2 k (by omega) (by omega) (by omega)).trans (a2.2.2.2.2 k hk)⟩
        have hDW := (g2.2.2.2.2 D (by omega) (by omega) (by omega)).trans HDF.out
        have z1 : W2.cell? ⟨kb, 0, none⟩ = some (.int .i64 (n : Int)) := by simp [World.cell?, hkbW]
        have z2 : W2.cell? ⟨rb, 0, none⟩ = some (.slice va n vc) := by simp [World.cell?, hrbW]
        have z3 : W2.cell? ⟨ab, 0, none⟩ = some (.int .i64 ((N b).width : Int)) := by simp [World.cell?, g3]
        have z4 : W2.cell? ⟨ab + 1, 0, none⟩ = some (.int .i64 ((N b).leafs : Int)) := by simp [World.cell?, g4]
        have z5 : W2.cell? ⟨rc, 0, none⟩ = some (.bool false) := by simp [World.cell?, HRCW.out]
        have z6 : W2.frozen? ⟨rc, 0, none⟩ = false := by simp [World.frozen?, HRCW.out]
        have hrcl : rc < W2.heap.size := (Array.getElem?_eq_some_iff.1 HRCW.out).1
        have HDW := hide1 hDW
        have HD2 := hide1 hdef
        have HDD : Hid (D ≠ rc ∧ D2 ≠ rc ∧ D2 ≠ D ∧ rc ≤ D ∧ rc ≤ D2) := by
          have h1 := HB1.out
          rw [HRCE.out] at h1
          have hrc1 : rc < w1.heap.size := (Array.getElem?_eq_some_iff.1 h1).1
          have h6s := HK6.out.2.2.2.1
          have h15 := HK15.out.size
          show _ ∧ _ ∧ _ ∧ _ ∧ _
          omega
        have hne4 : kb ≠ rc ∧ rb ≠ rc ∧ ab ≠ rc ∧ ab + 1 ≠ rc := by
          have h1 := HB1.out
          rw [HRCE.out] at h1
          have hrc1 : rc < w1.heap.size := (Array.getElem?_eq_some_iff.1 h1).1
          omega
        have y1 := keepsB hne4.1 z1
        have y2 := keepsB hne4.2.1 z2
        have y3 := keepsB hne4.2.2.1 z3
        have y4 := keepsB hne4.2.2.2 z4
        have hkr2 : KeptBut rc W2 W2 := (Kept.refl W2).tbut rc
        clear g1 g2 g3 g4 hdef hTb hT0 hT1 hss hs14 hrbW hkbW hDW hlo hend hlf hne4
        go_upto_region 34 with fail
        go_region_held3 (fun W' => KeptBut rc W2 W') (first | assumption | exact (Kept.refl _).tbut _ | exact (drew_kept _).tbut _ | exact (setCell_but _ _ _ _).drew)
          ((first
            | (go_at_call 19; refine (HSI.out _ (by first | assumption | exact drew_kept _)).mono ?_; rintro e w15 ⟨rfl, hw15⟩; have hw15 := hw15.symm; subst hw15)
            | (go_at_call 12; refine (HLI.out _ (by first | assumption | exact drew_kept _)).mono ?_; rintro e w15 ⟨rfl, hw15⟩; have hw15 := hw15.symm; subst hw15)
            | (go_at_call 11; refine (HWI.out _ (by first | assumption | exact drew_kept _)).mono ?_; rintro e w15 ⟨rfl, hw15⟩; have hw15 := hw15.symm; subst hw15)))
        go_wp2_with fail
        obtain ⟨e1, e2⟩ := rc_end HKW2.out (by have := HRCE.out; omega) HRCW.out
        have hdd := HDD.out
        have hsb := setCell_but W2 rc 0 (.bool true)
        have hD2a : (W2.setCell ⟨rc, 0, none⟩ (.bool true)).drew.heap[D2]? = some (.deferred (some [])) := (hsb.2.2.2.2 D2 (Array.getElem?_eq_some_iff.1 HD2.out).1 hdd.2.1).trans HD2.out
        have hDa : (W2.setCell ⟨rc, 0, none⟩ (.bool true)).drew.heap[D]? = some (.deferred (some [])) := (hsb.2.2.2.2 D (Array.getElem?_eq_some_iff.1 HDW.out).1 hdd.1).trans HDW.out
        have e1d : Kept w (W2.setCell ⟨rc, 0, none⟩ (.bool true)).drew := gtrans e1 (drew_kept _)
        have e2d : (W2.setCell ⟨rc, 0, none⟩ (.bool true)).drew.heap[rc]? = some (.cells #[.bool true] 4 (0, 0)) := e2
        refine ⟨by simp, .inl ⟨_, _, rfl, run_takeDeferred hD2a, ?_⟩⟩
        refine ⟨by simp, .inl ⟨_, _, rfl, run_takeDeferred ((World.putObj_heap_other (Ne.symm hdd.2.2.1)).trans hDa), ?_⟩⟩
        exact ⟨_, results_bool rfl _ _ rc (.bool true) rfl (by simp [World.cell?, (World.putObj_heap_other (Ne.symm hdd.1)).trans ((World.putObj_heap_other (Ne.symm hdd.2.1)).trans e2d)]), rfl, (e1d.put (by have := HRCE.out; omega) _).put (by have := HRCE.out; omega) _⟩

end Tr
end Ex
end Go.Proofs.Ytbmobfogddeikaa
