import Derived.Test.YtpbnjdnlgcfiiaaTrK4
import Derived.Test.YtpbnjdnlgcfiiaaTrR4
import Derived.Test.YtpbnjdnlgcfiiaaTrWt
import Derived.Test.YtpbnjdnlgcfiiaaTrH5
namespace Go.Proofs.Ytpbnjdnlgcfiiaa
open Go.RowKit
attribute [local go_sem] Oper.semAt_some
namespace Ex
namespace Tr

/-- What both nodes of a place tell. -/
theorem twin_more {s0 s1 m0 m1 : Nat} {P Q : List Nat} {N : Nat → Nd} {X : Nat → Rd} (hT : TwinOk s0 s1 m0 m1 P Q N X) {d : Nat} (hd : d ∈ Q) : (X d).n = (N (btw P X d)).n ∧ (X d).l0 = (N (btw P X d)).l0 ∧ (X d).l1 = (N (btw P X d)).l1 ∧ (X d).l2 = (N (btw P X d)).l2 ∧ (X d).l3 = (N (btw P X d)).l3 := by
  obtain ⟨_, _, _, _, _, _, _, _, _, i, hi, hp, _⟩ := twin_of hT hd
  obtain ⟨_, _, st, s, m, _, hh⟩ := hT.2.2.2.1 i _ d hp hi
  rcases hh with ⟨l0, l1, l2, l3, e1, e2⟩ | ⟨kd, n, js, hm, hj, e1, e2⟩ <;> rw [e1, e2] <;> exact ⟨rfl, rfl, rfl, rfl, rfl⟩
theorem kids_at {N : Nat → Nd} {P : List Nat} {X : Nat → Rd} {b d k dk : Nat} (h : (N b).kids.map Prod.fst = (X d).kids.map (btw P X)) (hk : (X d).kids[k]? = some dk) : ∃ q, (N b).kids[k]? = some q ∧ q.1 = btw P X dk := by
  have h1 : ((N b).kids.map Prod.fst)[k]? = some (btw P X dk) := by rw [h, List.getElem?_map, hk]; rfl
  rw [List.getElem?_map] at h1
  obtain ⟨q, hq, e⟩ := Option.map_eq_some_iff.1 h1
  exact ⟨q, hq, e⟩

-- FRAMES
def AkF (fb i b d : Nat) (a : Act) : Prop := ∃ T : Nat → Value, a = { tmps := List.toArray ((.pointer (some ⟨fb, 0, none⟩)) :: (.int .i64 (i : Int)) :: T 2 :: T 3 :: (.bool false) :: (.pointer (some ⟨b, 0, none⟩)) :: (.pointer (some ⟨d, 0, none⟩)) :: T 7 :: T 8 :: (.int .i64 0) :: T 10 :: T 11 :: T 12 :: T 13 :: T 14 :: T 15 :: T 16 :: T 17 :: T 18 :: T 19 :: T 20 :: T 21 :: T 22 :: T 23 :: T 24 :: T 25 :: T 26 :: T 27 :: T 28 :: T 29 :: T 30 :: T 31 :: T 32 :: T 33 :: T 34 :: T 35 :: T 36 :: T 37 :: T 38 :: T 39 :: T 40 :: T 41 :: T 42 :: T 43 :: T 44 :: T 45 :: T 46 :: T 47 :: T 48 :: T 49 :: T 50 :: T 51 :: T 52 :: T 53 :: T 54 :: T 55 :: T 56 :: T 57 :: T 58 :: T 59 :: T 60 :: T 61 :: T 62 :: T 63 :: T 64 :: T 65 :: T 66 :: T 67 :: T 68 :: T 69 :: T 70 :: T 71 :: T 72 :: T 73 :: T 74 :: T 75 :: T 76 :: T 77 :: T 78 :: T 79 :: T 80 :: T 81 :: T 82 :: T 83 :: T 84 :: T 85 :: T 86 :: T 87 :: T 88 :: T 89 :: T 90 :: T 91 :: T 92 :: T 93 :: T 94 :: T 95 :: T 96 :: T 97 :: T 98 :: T 99 :: T 100 :: T 101 :: T 102 :: T 103 :: T 104 :: T 105 :: T 106 :: T 107 :: T 108 :: T 109 :: T 110 :: T 111 :: T 112 :: T 113 :: T 114 :: T 115 :: T 116 :: T 117 :: T 118 :: T 119 :: T 120 :: T 121 :: T 122 :: T 123 :: T 124 :: T 125 :: T 126 :: T 127 :: T 128 :: T 129 :: T 130 :: T 131 :: T 132 :: T 133 :: T 134 :: T 135 :: T 136 :: T 137 :: T 138 :: T 139 :: T 140 :: T 141 :: T 142 :: T 143 :: T 144 :: T 145 :: T 146 :: T 147 :: T 148 :: T 149 :: T 150 :: T 151 :: T 152 :: T 153 :: T 154 :: T 155 :: T 156 :: T 157 :: T 158 :: T 159 :: T 160 :: T 161 :: T 162 :: T 163 :: T 164 :: T 165 :: T 166 :: T 167 :: T 168 :: T 169 :: T 170 :: T 171 :: T 172 :: T 173 :: T 174 :: T 175 :: T 176 :: T 177 :: T 178 :: T 179 :: T 180 :: T 181 :: T 182 :: T 183 :: T 184 :: T 185 :: T 186 :: T 187 :: T 188 :: T 189 :: T 190 :: T 191 :: T 192 :: T 193 :: T 194 :: T 195 :: T 196 :: T 197 :: T 198 :: T 199 :: T 200 :: T 201 :: T 202 :: T 203 :: T 204 :: T 205 :: T 206 :: []), defers := [] }
theorem akF_of {fb i b d : Nat} (L : List Value) (h : L = (.pointer (some ⟨fb, 0, none⟩)) :: (.int .i64 (i : Int)) :: nthV L 2 :: nthV L 3 :: (.bool false) :: (.pointer (some ⟨b, 0, none⟩)) :: (.pointer (some ⟨d, 0, none⟩)) :: nthV L 7 :: nthV L 8 :: (.int .i64 0) :: nthV L 10 :: nthV L 11 :: nthV L 12 :: nthV L 13 :: nthV L 14 :: nthV L 15 :: nthV L 16 :: nthV L 17 :: nthV L 18 :: nthV L 19 :: nthV L 20 :: nthV L 21 :: nthV L 22 :: nthV L 23 :: nthV L 24 :: nthV L 25 :: nthV L 26 :: nthV L 27 :: nthV L 28 :: nthV L 29 :: nthV L 30 :: nthV L 31 :: nthV L 32 :: nthV L 33 :: nthV L 34 :: nthV L 35 :: nthV L 36 :: nthV L 37 :: nthV L 38 :: nthV L 39 :: nthV L 40 :: nthV L 41 :: nthV L 42 :: nthV L 43 :: nthV L 44 :: nthV L 45 :: nthV L 46 :: nthV L 47 :: nthV L 48 :: nthV L 49 :: nthV L 50 :: nthV L 51 :: nthV L 52 :: nthV L 53 :: nthV L 54 :: nthV L 55 :: nthV L 56 :: nthV L 57 :: nthV L 58 :: nthV L 59 :: nthV L 60 :: nthV L 61 :: nthV L 62 :: nthV L 63 :: nthV L 64 :: nthV L 65 :: nthV L 66 :: nthV L 67 :: nthV L 68 :: nthV L 69 :: nthV L 70 :: nthV L 71 :: nthV L 72 :: nthV L 73 :: nthV L 74 :: nthV L 75 :: nthV L 76 :: nthV L 77 :: nthV L 78 :: nthV L 79 :: nthV L 80 :: nthV L 81 :: nthV L 82 :: nthV L 83 :: nthV L 84 :: nthV L 85 :: nthV L 86 :: nthV L 87 :: nthV L 88 :: nthV L 89 :: nthV L 90 :: nthV L 91 :: nthV L 92 :: nthV L 93 :: nthV L 94 :: nthV L 95 :: nthV L 96 :: nthV L 97 :: nthV L 98 :: nthV L 99 :: nthV L 100 :: nthV L 101 :: nthV L 102 :: nthV L 103 :: nthV L 104 :: nthV L 105 :: nthV L 106 :: nthV L 107 :: nthV L 108 :: nthV L 109 :: nthV L 110 :: nthV L 111 :: nthV L 112 :: nthV L 113 :: nthV L 114 :: nthV L 115 :: nthV L 116 :: nthV L 117 :: nthV L 118 :: nthV L 119 :: nthV L 120 :: nthV L 121 :: nthV L 122 :: nthV L 123 :: nthV L 124 :: nthV L 125 :: nthV L 126 :: nthV L 127 :: nthV L 128 :: nthV L 129 :: nthV L 130 :: nthV L 131 :: nthV L 132 :: nthV L 133 :: nthV L 134 :: nthV L 135 :: nthV L 136 :: nthV L 137 :: nthV L 138 :: nthV L 139 :: nthV L 140 :: nthV L 141 :: nthV L 142 :: nthV L 143 :: nthV L 144 :: nthV L 145 :: nthV L 146 :: nthV L 147 :: nthV L 148 :: nthV L 149 :: nthV L 150 :: nthV L 151 :: nthV L 152 :: nthV L 153 :: nthV L 154 :: nthV L 155 :: nthV L 156 :: nthV L 157 :: nthV L 158 :: nthV L 159 :: nthV L 160 :: nthV L 161 :: nthV L 162 :: nthV L 163 :: nthV L 164 :: nthV L 165 :: nthV L 166 :: nthV L 167 :: nthV L 168 :: nthV L 169 :: nthV L 170 :: nthV L 171 :: nthV L 172 :: nthV L 173 :: nthV L 174 :: nthV L 175 :: nthV L 176 :: nthV L 177 :: nthV L 178 :: nthV L 179 :: nthV L 180 :: nthV L 181 :: nthV L 182 :: nthV L 183 :: nthV L 184 :: nthV L 185 :: nthV L 186 :: nthV L 187 :: nthV L 188 :: nthV L 189 :: nthV L 190 :: nthV L 191 :: nthV L 192 :: nthV L 193 :: nthV L 194 :: nthV L 195 :: nthV L 196 :: nthV L 197 :: nthV L 198 :: nthV L 199 :: nthV L 200 :: nthV L 201 :: nthV L 202 :: nthV L 203 :: nthV L 204 :: nthV L 205 :: nthV L 206 :: []) : AkF fb i b d { tmps := L.toArray, defers := [] } := ⟨fun k => nthV L k, by rw [← h]⟩
def AkG (fb : Nat) (vr vw : Value) (a : Act) : Prop := ∃ T : Nat → Value, a = { tmps := List.toArray ((.pointer (some ⟨fb, 0, none⟩)) :: T 1 :: T 2 :: T 3 :: T 4 :: T 5 :: T 6 :: T 7 :: T 8 :: T 9 :: T 10 :: T 11 :: T 12 :: T 13 :: T 14 :: vr :: vw :: (.int .i64 0) :: T 18 :: T 19 :: T 20 :: T 21 :: T 22 :: T 23 :: T 24 :: T 25 :: T 26 :: T 27 :: T 28 :: T 29 :: T 30 :: T 31 :: T 32 :: T 33 :: T 34 :: T 35 :: T 36 :: T 37 :: T 38 :: T 39 :: T 40 :: T 41 :: T 42 :: T 43 :: T 44 :: T 45 :: T 46 :: T 47 :: T 48 :: T 49 :: T 50 :: T 51 :: T 52 :: T 53 :: T 54 :: T 55 :: T 56 :: T 57 :: T 58 :: T 59 :: T 60 :: T 61 :: T 62 :: T 63 :: T 64 :: T 65 :: T 66 :: T 67 :: T 68 :: T 69 :: T 70 :: T 71 :: T 72 :: T 73 :: T 74 :: T 75 :: T 76 :: T 77 :: T 78 :: T 79 :: T 80 :: T 81 :: T 82 :: T 83 :: T 84 :: T 85 :: T 86 :: T 87 :: T 88 :: T 89 :: T 90 :: T 91 :: T 92 :: T 93 :: T 94 :: T 95 :: T 96 :: T 97 :: T 98 :: T 99 :: T 100 :: T 101 :: T 102 :: T 103 :: T 104 :: T 105 :: T 106 :: T 107 :: T 108 :: T 109 :: T 110 :: T 111 :: T 112 :: T 113 :: T 114 :: T 115 :: T 116 :: T 117 :: T 118 :: T 119 :: T 120 :: T 121 :: T 122 :: T 123 :: T 124 :: T 125 :: T 126 :: T 127 :: T 128 :: T 129 :: T 130 :: T 131 :: T 132 :: T 133 :: T 134 :: T 135 :: T 136 :: T 137 :: T 138 :: T 139 :: T 140 :: T 141 :: T 142 :: T 143 :: T 144 :: T 145 :: T 146 :: T 147 :: T 148 :: T 149 :: T 150 :: T 151 :: T 152 :: T 153 :: T 154 :: T 155 :: T 156 :: T 157 :: T 158 :: T 159 :: T 160 :: T 161 :: T 162 :: T 163 :: T 164 :: T 165 :: T 166 :: T 167 :: T 168 :: T 169 :: T 170 :: T 171 :: T 172 :: T 173 :: T 174 :: T 175 :: T 176 :: T 177 :: T 178 :: T 179 :: T 180 :: T 181 :: T 182 :: T 183 :: T 184 :: T 185 :: T 186 :: T 187 :: T 188 :: T 189 :: T 190 :: T 191 :: T 192 :: T 193 :: T 194 :: T 195 :: T 196 :: T 197 :: T 198 :: T 199 :: T 200 :: T 201 :: T 202 :: T 203 :: T 204 :: T 205 :: T 206 :: []), defers := [] }
theorem akG_of {fb : Nat} {vr vw : Value} (L : List Value) (h : L = (.pointer (some ⟨fb, 0, none⟩)) :: nthV L 1 :: nthV L 2 :: nthV L 3 :: nthV L 4 :: nthV L 5 :: nthV L 6 :: nthV L 7 :: nthV L 8 :: nthV L 9 :: nthV L 10 :: nthV L 11 :: nthV L 12 :: nthV L 13 :: nthV L 14 :: vr :: vw :: (.int .i64 0) :: nthV L 18 :: nthV L 19 :: nthV L 20 :: nthV L 21 :: nthV L 22 :: nthV L 23 :: nthV L 24 :: nthV L 25 :: nthV L 26 :: nthV L 27 :: nthV L 28 :: nthV L 29 :: nthV L 30 :: nthV L 31 :: nthV L 32 :: nthV L 33 :: nthV L 34 :: nthV L 35 :: nthV L 36 :: nthV L 37 :: nthV L 38 :: nthV L 39 :: nthV L 40 :: nthV L 41 :: nthV L 42 :: nthV L 43 :: nthV L 44 :: nthV L 45 :: nthV L 46 :: nthV L 47 :: nthV L 48 :: nthV L 49 :: nthV L 50 :: nthV L 51 :: nthV L 52 :: nthV L 53 :: nthV L 54 :: nthV L 55 :: nthV L 56 :: nthV L 57 :: nthV L 58 :: nthV L 59 :: nthV L 60 :: nthV L 61 :: nthV L 62 :: nthV L 63 :: nthV L 64 :: nthV L 65 :: nthV L 66 :: nthV L 67 :: nthV L 68 :: nthV L 69 :: nthV L 70 :: nthV L 71 :: nthV L 72 :: nthV L 73 :: nthV L 74 :: nthV L 75 :: nthV L 76 :: nthV L 77 :: nthV L 78 :: nthV L 79 :: nthV L 80 :: nthV L 81 :: nthV L 82 :: nthV L 83 :: nthV L 84 :: nthV L 85 :: nthV L 86 :: nthV L 87 :: nthV L 88 :: nthV L 89 :: nthV L 90 :: nthV L 91 :: nthV L 92 :: nthV L 93 :: nthV L 94 :: nthV L 95 :: nthV L 96 :: nthV L 97 :: nthV L 98 :: nthV L 99 :: nthV L 100 :: nthV L 101 :: nthV L 102 :: nthV L 103 :: nthV L 104 :: nthV L 105 :: nthV L 106 :: nthV L 107 :: nthV L 108 :: nthV L 109 :: nthV L 110 :: nthV L 111 :: nthV L 112 :: nthV L 113 :: nthV L 114 :: nthV L 115 :: nthV L 116 :: nthV L 117 :: nthV L 118 :: nthV L 119 :: nthV L 120 :: nthV L 121 :: nthV L 122 :: nthV L 123 :: nthV L 124 :: nthV L 125 :: nthV L 126 :: nthV L 127 :: nthV L 128 :: nthV L 129 :: nthV L 130 :: nthV L 131 :: nthV L 132 :: nthV L 133 :: nthV L 134 :: nthV L 135 :: nthV L 136 :: nthV L 137 :: nthV L 138 :: nthV L 139 :: nthV L 140 :: nthV L 141 :: nthV L 142 :: nthV L 143 :: nthV L 144 :: nthV L 145 :: nthV L 146 :: nthV L 147 :: nthV L 148 :: nthV L 149 :: nthV L 150 :: nthV L 151 :: nthV L 152 :: nthV L 153 :: nthV L 154 :: nthV L 155 :: nthV L 156 :: nthV L 157 :: nthV L 158 :: nthV L 159 :: nthV L 160 :: nthV L 161 :: nthV L 162 :: nthV L 163 :: nthV L 164 :: nthV L 165 :: nthV L 166 :: nthV L 167 :: nthV L 168 :: nthV L 169 :: nthV L 170 :: nthV L 171 :: nthV L 172 :: nthV L 173 :: nthV L 174 :: nthV L 175 :: nthV L 176 :: nthV L 177 :: nthV L 178 :: nthV L 179 :: nthV L 180 :: nthV L 181 :: nthV L 182 :: nthV L 183 :: nthV L 184 :: nthV L 185 :: nthV L 186 :: nthV L 187 :: nthV L 188 :: nthV L 189 :: nthV L 190 :: nthV L 191 :: nthV L 192 :: nthV L 193 :: nthV L 194 :: nthV L 195 :: nthV L 196 :: nthV L 197 :: nthV L 198 :: nthV L 199 :: nthV L 200 :: nthV L 201 :: nthV L 202 :: nthV L 203 :: nthV L 204 :: nthV L 205 :: nthV L 206 :: []) : AkG fb vr vw { tmps := L.toArray, defers := [] } := ⟨fun k => nthV L k, by rw [← h]⟩
-- END

set_option linter.unusedSimpArgs false in
set_option maxRecDepth 100000 in
set_option maxHeartbeats 8000000 in
theorem asked_is (base fb s0 s1 : Nat) (V : Nat → Prop) (P Q : List Nat) (N : Nat → Nd) (X : Nat → Rd) (m0 m1 : Nat) (vP vR vB : Value) (i : Nat) (w : World) (hM : FoM base fb s0 s1 V P Q N X m0 m1 vP vR vB w) (hT : TwinOk s0 s1 m0 m1 P Q N X) (hP : P.length ≤ 1048576) (hi : i < P.length) :
    Calls Try.prog 24 #[.pointer (some ⟨fb, 0, none⟩), .int .i64 (i : Int)] w fun e w' => e = .returned (.bool true) ∧ Kept w w' := by
  obtain ⟨b, hb⟩ : ∃ b, P[i]? = some b := ⟨_, List.getElem?_eq_getElem hi⟩
  obtain ⟨d, hd⟩ : ∃ d, Q[i]? = some d := ⟨_, List.getElem?_eq_getElem (by rw [← hT.1]; exact hi)⟩
  have hbP := List.mem_of_getElem? hb
  have hdQ := List.mem_of_getElem? hd
  obtain ⟨gp, cp, rfl, _, cP⟩ := hM.2.2.2.1.cell hb
  obtain ⟨gq, cq, rfl, _, cQ⟩ := hM.2.2.2.2.1.cell hd
  have hc2 : w.cell? ⟨fb, 2, none⟩ = some (.slice (some ⟨gp, 0, none⟩) P.length cp) := by simp [World.cell?, hM.1]
  have hc3 : w.cell? ⟨fb, 3, none⟩ = some (.slice (some ⟨gq, 0, none⟩) Q.length cq) := by simp [World.cell?, hM.1]
  rw [← hT.1] at hc3
  have ebt : btw P X d = b := by
    have h1 := (hT.2.2.2.1 i b d hb hd).st.1
    unfold btw
    rw [h1]
    exact at_some hb
  obtain ⟨_, t2, t3, t4, t5, t6, t7, _⟩ := twin_of hT hdQ
  obtain ⟨e1, e2, e3, e4, e5⟩ := twin_more hT hdQ
  rw [ebt] at t2 t3 t4 t5 e1 e2 e3 e4 e5
  have HRI := hide1 (rfor_of hM hT)
  have HFO := hide1 (forest_of hM hT)
  have HNO := hide1 (HFO.out b hbP).1
  obtain ⟨_, _, r2, r9⟩ := (HRI.out d hdQ).1.cells
  have hRI : RIs w d (X d) := ⟨0, _, (HRI.out d hdQ).1⟩
  obtain ⟨r3, r4, r5, r6, r7, ka, kc, r8, hkl, hkc⟩ := hRI.more
  rw [← t3] at r2
  rw [e1] at r3
  rw [e2] at r4
  rw [e3] at r5
  rw [e4] at r6
  rw [e5] at r7
  rw [← t4] at r9
  have hlen : (X d).kids.length = (N b).kids.length := by have := congrArg List.length t2; simpa using this.symm
  rw [hlen] at r8 hkl
  obtain ⟨L, hL⟩ : ∃ L, P.length = L := ⟨_, rfl⟩
  rw [hL] at hc2 hc3 hi hP
  have hiI : (i : Int) < (L : Int) := by omega
  have hPI : (L : Int) ≤ 1048576 := by omega
  obtain ⟨K, hK⟩ : ∃ K, (N b).kids.length = K := ⟨_, rfl⟩
  rw [hK] at r8 hkl
  have hKI : (K : Int) ≤ 4194304 := by omega
  have HLF := hide1 (leafK_is HNO.out)
  have HM := hide1 hM
  have HT := hide1 hT
  have HKK := hide1 hK
  have HKL := hide1 hlen
  have HKC := hide1 hkc
  have HT2 := hide1 t2
  have HT4 := hide1 t4
  have HT5 := hide1 t5
  have HPL := hide1 hL
  have HBD : Hid (P[i]? = some b ∧ Q[i]? = some d) := ⟨hb, hd⟩
  clear hM hT hb hd t2 t4 t5 t6 t7 e1 e2 e3 e4 e5 hRI hkc hlen hK hL t3
  generalize (N b).l0 = u0 at *
  generalize (N b).l1 = u1 at *
  generalize (N b).l2 = u2 at *
  generalize (N b).l3 = u3 at *
  go_enter Try.func24, Try.ntmps24
  go_upto_region 4 with (go_at_call 49; refine HLF.out.mono ?_; rintro e w1 ⟨rfl, hk1⟩; have HK1 := hide1 hk1; clear hk1)
  obtain ⟨w4, hw4⟩ : ∃ w4, w1.alloc (.cells #[.int .i64 u0, .int .i64 u1, .int .i64 u2, .int .i64 u3] 37) = w4 := ⟨_, rfl⟩
  have hk14 : Kept w1 w4 := by rw [← hw4]; exact (Kept.refl w1).alloc _ _
  have HX4 : Hid (w4.heap[w1.heap.size]? = some (.cells #[.int .i64 u0, .int .i64 u1, .int .i64 u2, .int .i64 u3] 37 (0, 0))) := by rw [← hw4]; exact World.alloc_heap_new w1 _
  obtain ⟨lb, hlb⟩ : ∃ lb, w1.heap.size = lb := ⟨_, rfl⟩
  rw [hlb] at HX4
  have HK4 : Hid (Kept w w4) := gtrans HK1.out hk14
  rw [hw4, hlb]
  clear hw4 hlb hk14 HK1
  have hk4 := HK4.out
  have l0c : w4.cell? ⟨lb, 0, none⟩ = some (.int .i64 u0) := by simp [World.cell?, HX4.out]
  have l1c : w4.cell? ⟨lb, 1, none⟩ = some (.int .i64 u1) := by simp [World.cell?, HX4.out]
  have l2c : w4.cell? ⟨lb, 2, none⟩ = some (.int .i64 u2) := by simp [World.cell?, HX4.out]
  have l3c : w4.cell? ⟨lb, 3, none⟩ = some (.int .i64 u3) := by simp [World.cell?, HX4.out]
  have q2 := grown_cell hk4 r2
  have q3 := grown_cell hk4 r3
  have q4 := grown_cell hk4 r4
  have q5 := grown_cell hk4 r5
  have q6 := grown_cell hk4 r6
  have q7 := grown_cell hk4 r7
  have q8 := grown_cell hk4 r8
  have q9 := grown_cell hk4 r9
  have HN4 := hide1 (HNO.out.keep hk4)
  obtain ⟨kd, hkd⟩ : ∃ kd, (N b).kind = kd := ⟨_, rfl⟩
  obtain ⟨nn, hnn⟩ : ∃ nn, (N b).n = nn := ⟨_, rfl⟩
  obtain ⟨sz, hsz⟩ : ∃ sz, (N b).size = sz := ⟨_, rfl⟩
  have HQ1 : Hid (∀ n, Calls Try.prog 50 #[.pointer (some ⟨b, 0, none⟩)] (w4.drewN n) fun e w' => e = .returned (.int .i64 kd) ∧ w' = w4.drewN n) := fun n => by rw [← hkd]; exact kindK_is (HN4.out.keep (drewN_kept _ _))
  have HQ2 : Hid (∀ n, Calls Try.prog 51 #[.pointer (some ⟨b, 0, none⟩)] (w4.drewN n) fun e w' => e = .returned (.int .i64 nn) ∧ w' = w4.drewN n) := fun n => by rw [← hnn]; exact nK_is (HN4.out.keep (drewN_kept _ _))
  have HQ3 : Hid (∀ n, Calls Try.prog 21 #[.pointer (some ⟨b, 0, none⟩)] (w4.drewN n) fun e w' => e = .returned (.int .i64 (K : Int)) ∧ w' = w4.drewN n) := fun n => by rw [← HKK.out]; exact count_is _ _ _ _ (HN4.out.keep (drewN_kept _ _))
  have HQ4 : Hid (∀ n, Calls Try.prog 52 #[.pointer (some ⟨b, 0, none⟩)] (w4.drewN n) fun e w' => e = .returned (.int .i64 (sz : Int)) ∧ w' = w4.drewN n) := fun n => by rw [← hsz]; exact size_is (HN4.out.keep (drewN_kept _ _))
  rw [hkd] at q2
  rw [hnn] at q3
  rw [hsz] at q9
  have HKD := hide1 hkd
  have HSZ := hide1 hsz
  have HNN := hide1 hnn
  have R8 := hide1 r8
  have R9 := hide1 r9
  clear hk4 r2 r3 r4 r5 r6 r7 r8 r9 hnn hsz hkd
  rw [HKD.out]
  go_quiet ((first
    | (go_at_call 50; exact Calls.quiet_of_same (HQ1.out _))
    | (go_at_call 51; exact Calls.quiet_of_same (HQ2.out _))
    | (go_at_call 21; exact Calls.quiet_of_same (HQ3.out _))
    | (go_at_call 52; exact Calls.quiet_of_same (HQ4.out _))))
  obtain ⟨w5, hw5⟩ : ∃ w5, w4.drewN nq = w5 := ⟨_, rfl⟩
  have HK5 : Hid (Kept w w5) := by rw [← hw5]; exact gtrans HK4.out (drewN_kept _ _)
  rw [hw5]
  clear hw5 HQ1 HQ2 HQ3 HQ4 HN4 l0c l1c l2c l3c q2 q3 q4 q5 q6 q7 q8 q9 HX4 HK4
  have h5 := HK5.out
  have p8 := grown_cell h5 R8.out
  clear h5
  have HC2 := hide1 hc2
  go_wp2_with fail
  clear p8
  refine frame_toK (akF_of (fb := fb) (i := i) (b := b) (d := d) _ (by kernel_rfl)) ?_
  rintro a' ⟨T, rfl⟩
  go_loopw [9] (fun vk wr => ∃ k : Nat, k ≤ K ∧ vk = .int .i64 (k : Int) ∧ Hid (Kept w wr)) (fun vk _ => K - (intOf vk).toNat)
  case atStart => exact ⟨0, Nat.zero_le _, rfl, HK5⟩
  case round =>
    obtain ⟨k, hk, rfl, HR⟩ := hrel
    have p8 := grown_cell HR.out R8.out
    by_cases hlt : k < K
    · obtain ⟨dk, hdk⟩ : ∃ dk, (X d).kids[k]? = some dk := ⟨_, List.getElem?_eq_getElem (by rw [HKL.out, HKK.out]; exact hlt)⟩
      obtain ⟨g, rfl, hgk⟩ := HKC.out k dk hdk
      obtain ⟨q, hq, hqe⟩ := kids_at HT2.out hdk
      have hdkQ := (twin_of HT.out hdQ).2.2.2.2.2.1 dk (List.mem_of_getElem? hdk)
      obtain ⟨_, _, _, _, _, _, _, _, _, i2, _, hp2, hpl2⟩ := twin_of HT.out hdkQ
      have hc1 := (HRI.out dk hdkQ).1.cells.2.1
      rw [hpl2] at hc1
      obtain ⟨gp2, cp2, ev, _, hcp2⟩ := HM.out.2.2.2.1.cell hp2
      injection ev with ev _ _
      injection ev with ev
      injection ev with ev
      subst ev
      have hi2 := (List.getElem?_eq_some_iff.1 hp2).1
      rw [HPL.out] at hi2
      rw [← hqe] at hcp2
      have y1 := grown_cell HR.out hgk
      have y2 := grown_cell HR.out hc1
      have y3 := grown_cell HR.out hcp2
      have y4 := grown_cell HR.out HC2.out
      have HKID := hide1 (kidK_in (HNO.out.keep HR.out) hq)
      have hkI : (k : Int) < (K : Int) := by omega
      have hi2I : (i2 : Int) < (L : Int) := by omega
      have hns := fun W => node_same W q.1
      generalize q.1 = qb at *
      clear hdk hgk hq hqe hdkQ hp2 hpl2 hc1 hcp2
      go_upto_region 10 with (go_at_call 53; refine HKID.out.mono ?_; rintro e w6 ⟨rfl, hw6⟩; have hw6 := hw6.symm; subst hw6)
      go_quiet (fail)
      go_wp2_with fail
      go_roundw
      case rel => exact ⟨k + 1, by omega, by go_num, gtrans HR.out (drewN_kept _ _)⟩
      case measure => simp [intOf]; omega
    · have hkk : k = K := by omega
      subst hkk
      have HKO : Hid (∀ W c, Kept w W → (c < 0 ∨ (k : Int) ≤ c) → Calls Try.prog 53 #[.pointer (some ⟨b, 0, none⟩), .int .i64 c] W fun e w' => e = .returned (.tuple #[.pointer none, .bool false]) ∧ w' = W) := fun W c hW hc => kidK_out (HNO.out.keep hW) c (by rw [HKK.out]; exact hc)
      have p9 := grown_cell HR.out R9.out
      rw [HSZ.out] at p9
      have hszb : sz ≤ 4194304 := by have := HT5.out.2.1; rw [HSZ.out] at this; exact this
      have hszI : (sz : Int) ≤ 4194304 := by omega
      by_cases hbig : 4000 < sz
      · have hbI : (4000 : Int) < (sz : Int) := by omega
        go_wp2_with (go_at_call 53; refine (HKO.out _ _ HR.out (by omega)).mono ?_; rintro e w6 ⟨rfl, hw6⟩; have hw6 := hw6.symm; subst hw6)
        go_ret
        exact ⟨rfl, HR.out⟩
      · have hbI : ¬ (4000 : Int) < (sz : Int) := by omega
        have HROWS : Hid (Calls Try.prog 28 #[.pointer (some ⟨b, 0, none⟩)] wr fun e w' => ∃ va vc, e = .returned (.slice va sz vc) ∧ RowsRd w' (.slice va sz vc) ((wl N (N b).size [b] 0).map fun q => N q.2) ∧ Kept w w') := by
          have hF := HFO.out.kb (HR.out.kb (Nat.le_refl _))
          have hlen : ((wl N (N b).size [b] 0).map fun q => N q.2).length = sz := by rw [List.length_map, HSZ.out]; exact wl_lenK hF sz [b] 0 (fun p hp => by rw [List.mem_singleton.1 hp]; exact hbP) (by rw [← HSZ.out]; simp [sizeS])
          refine (rowsF_is (fun c => c ∈ P) N w.heap.size b wr hF hbP HR.out.size).mono ?_
          rintro e w' ⟨⟨v, rfl, hv⟩, hk'⟩
          obtain ⟨va, vc, rfl⟩ := hv.form
          have h1 := hv.rd (by rw [hlen]; omega)
          rw [hlen] at h1 ⊢
          exact ⟨va, vc, rfl, h1, gtrans HR.out hk'⟩
        have HWALK : Hid (∀ W, Kept w W → Calls Try.prog 10 #[.pointer (some ⟨d, 0, none⟩)] W fun e w' => ∃ va vc L, e = .returned (.slice va sz vc) ∧ SpRd w' (.slice va sz vc) L ∧ Wants P Q X L (wl N (N b).size [b] 0) ∧ Kept W w') := fun W hW => by
          have hF := HRI.out.kb (hW.kb (Nat.le_refl _))
          have hwd : (N b).width ≤ 2305843009213693952 := by have h1 := HT5.out.2.2.1; rw [HSZ.out] at h1; exact Nat.le_trans h1 (Nat.le_trans (Nat.mul_le_mul_right 524288 hszb) (by decide))
          have hxs : (X d).size = sz := by rw [← HT4.out, HSZ.out]
          refine (walkT_is d W hF hdQ hW.size (by omega) (by rw [ebt]; exact hwd)).mono ?_
          rintro e w' ⟨v, L, rfl, ho, hk', _, hkk⟩
          obtain ⟨hb', hd'⟩ := HBD.out
          obtain ⟨hwt, hll⟩ := wants_of HT.out HM.out hb' hd' hk'
          obtain ⟨va, vc, rfl⟩ := ho.form
          have h2 := ho.rd (by rw [hll, HSZ.out]; exact hszb)
          rw [hll, HSZ.out] at h2
          exact ⟨va, vc, L, by rw [hll, HSZ.out], h2, hwt, hkk⟩
        have HTW : Hid (∀ W, Kept w W → Calls Try.prog 54 #[.pointer (some ⟨b, 0, none⟩)] W fun e w' => e = .returned (.int .i64 ((N b).width : Int)) ∧ Kept W w') := fun W hW => (width_is (HNO.out.keep hW)).mono fun _ _ h => ⟨h.1, by rw [h.2]; exact Kept.refl _⟩
        have HTL : Hid (∀ W, Kept w W → Calls Try.prog 56 #[.pointer (some ⟨b, 0, none⟩)] W fun e w' => e = .returned (.int .i64 ((N b).leafs : Int)) ∧ Kept W w') := fun W hW => (leafs_is (HNO.out.keep hW)).mono fun _ _ h => ⟨h.1, by rw [h.2]; exact Kept.refl _⟩
        have HTF : Hid (∀ W, Kept w W → Calls Try.prog 58 #[.pointer (some ⟨b, 0, none⟩)] W fun e w' => e = .returned (.bool (N b).failed) ∧ Kept W w') := fun W hW => (failed_is (HNO.out.keep hW)).mono fun _ _ h => ⟨h.1, by rw [h.2]; exact Kept.refl _⟩
        have HRW : Hid (∀ W, Kept w W → Calls Try.prog 55 #[.pointer (some ⟨d, 0, none⟩)] W fun e w' => e = .returned (.int .i64 ((N b).width : Int)) ∧ Kept W w') := fun W hW => (rwidth_is _ d W (HRI.out.kb (hW.kb (Nat.le_refl _))) hdQ (Nat.le_refl _)).mono fun _ _ h => ⟨by rw [h.1, ebt], by obtain ⟨m, e⟩ := h.2; rw [e]; exact drewN_kept _ _⟩
        have HRL : Hid (∀ W, Kept w W → Calls Try.prog 57 #[.pointer (some ⟨d, 0, none⟩)] W fun e w' => e = .returned (.int .i64 ((N b).leafs : Int)) ∧ Kept W w') := fun W hW => (rleafs_is (rlf_of HT.out).1 _ d W (HRI.out.kb (hW.kb (Nat.le_refl _))) hdQ (Nat.le_refl _)).mono fun _ _ h => ⟨by rw [h.1, ebt], by obtain ⟨m, e⟩ := h.2; rw [e]; exact drewN_kept _ _⟩
        have HRFd : Hid (∀ W, Kept w W → Calls Try.prog 59 #[.pointer (some ⟨d, 0, none⟩)] W fun e w' => e = .returned (.bool (N b).failed) ∧ Kept W w') := fun W hW => (rfailed_is (rlf_of HT.out).2 _ d W (HRI.out.kb (hW.kb (Nat.le_refl _))) hdQ (Nat.le_refl _)).mono fun _ _ h => ⟨by rw [h.1, ebt], by obtain ⟨m, e⟩ := h.2; rw [e]; exact drewN_kept _ _⟩
        generalize (N b).width = bw at *
        generalize (N b).leafs = bl at *
        generalize (N b).failed = bfl at *
        go_wp2_with (first
          | (go_at_call 53; refine (HKO.out _ _ HR.out (by omega)).mono ?_; rintro e w6 ⟨rfl, hw6⟩; have hw6 := hw6.symm; subst hw6)
          | (go_at_call 28; refine HROWS.out.mono ?_; rintro e w7 ⟨va, vc, rfl, hr7, hk7⟩; have HR7 := hide1 hr7; have HK7 := hide1 hk7; clear hr7 hk7)
          | (go_at_call 10; refine (HWALK.out _ HK7.out).mono ?_; rintro e w8 ⟨wa, wc, WL, rfl, hs8, hw8, hk8⟩; have HS8 := hide1 hs8; have HW8 := hide1 hw8; have HKN := hide1 (gtrans HK7.out hk8); have HK8W := hide1 (gtrans HK7.out hk8); have HR8 := hide1 (HR7.out.keep hk8); have HKE := hide1 (Kept.refl w8); clear hs8 hw8 hk8)
          | (go_at_call 54; refine (HTW.out _ HKN.out).mono ?_; rintro e w9 ⟨rfl, hk9⟩; have HKN := hide1 (gtrans HKN.out hk9); have HKE := hide1 (gtrans HKE.out hk9); clear hk9)
          | (go_at_call 56; refine (HTL.out _ HKN.out).mono ?_; rintro e w9 ⟨rfl, hk9⟩; have HKN := hide1 (gtrans HKN.out hk9); have HKE := hide1 (gtrans HKE.out hk9); clear hk9)
          | (go_at_call 58; refine (HTF.out _ HKN.out).mono ?_; rintro e w9 ⟨rfl, hk9⟩; have HKN := hide1 (gtrans HKN.out hk9); have HKE := hide1 (gtrans HKE.out hk9); clear hk9)
          | (go_at_call 55; refine (HRW.out _ HKN.out).mono ?_; rintro e w9 ⟨rfl, hk9⟩; have HKN := hide1 (gtrans HKN.out hk9); have HKE := hide1 (gtrans HKE.out hk9); clear hk9)
          | (go_at_call 57; refine (HRL.out _ HKN.out).mono ?_; rintro e w9 ⟨rfl, hk9⟩; have HKN := hide1 (gtrans HKN.out hk9); have HKE := hide1 (gtrans HKE.out hk9); clear hk9)
          | (go_at_call 59; refine (HRFd.out _ HKN.out).mono ?_; rintro e w9 ⟨rfl, hk9⟩; have HKN := hide1 (gtrans HKN.out hk9); have HKE := hide1 (gtrans HKE.out hk9); clear hk9))
        clear HTW HTL HTF HRW HRL HRFd HROWS HWALK HKO p8 p9
        refine frame_toK (akG_of (fb := fb) (vr := .slice va sz vc) (vw := .slice wa sz wc) _ (by kernel_rfl)) ?_
        rintro a' ⟨T, rfl⟩
        have HKW8 : Hid (Kept w w8) := HK8W.out
        go_loopw [17] (fun vk wr => ∃ j : Nat, j ≤ sz ∧ vk = .int .i64 (j : Int) ∧ Hid (Kept w8 wr)) (fun vk _ => sz - (intOf vk).toNat)
        case atStart => exact ⟨0, Nat.zero_le _, rfl, HKE⟩
        case round =>
          obtain ⟨j, hj, rfl, HJ⟩ := hrel
          by_cases hlj : j < sz
          · have hxl : (wl N (N b).size [b] 0).length = sz := by
              rw [HSZ.out]
              exact wl_lenK HFO.out sz [b] 0 (fun p hp => by rw [List.mem_singleton.1 hp]; exact hbP) (by rw [← HSZ.out]; simp [sizeS])
            obtain ⟨x, hx⟩ : ∃ x, (wl N (N b).size [b] 0)[j]? = some x := ⟨_, List.getElem?_eq_getElem (by rw [hxl]; exact hlj)⟩
            obtain ⟨at9, c⟩ := x
            obtain ⟨sp, hsp, _, hspc, hspQ⟩ := HW8.out.at hx
            dsimp only at hspc
            obtain ⟨ra, rc', er, _, hrr⟩ := HR8.out
            injection er with er erb erc
            subst er erc
            clear erb
            obtain ⟨g, rfl, hcl⟩ := hrr j (N c) (by rw [List.getElem?_map, hx]; rfl)
            obtain ⟨sa, sc, es, _, hss⟩ := HS8.out
            injection es with es esb esc
            subst es esc
            clear esb
            obtain ⟨g2, rfl, _, hs0, _⟩ := hss j sp hsp
            obtain ⟨_, z2, z3, _, _, _, _, _, _, i2, _, hp2, hpl2⟩ := twin_of HT.out hspQ
            obtain ⟨z4, z5, z6, z7, z8⟩ := twin_more HT.out hspQ
            rw [hspc] at z2 z3 z4 z5 z6 z7 z8 hp2
            have z9 : ((X sp.d).kids.length : Int) = ((N c).kids.length : Int) := by have := congrArg List.length z2; simp only [List.length_map] at this; omega
            have hcP := List.mem_of_getElem? hp2
            obtain ⟨gp2, cp2, ev, _, hcp2⟩ := HM.out.2.2.2.1.cell hp2
            injection ev with ev _ _
            injection ev with ev
            injection ev with ev
            subst ev
            have hi2 := (List.getElem?_eq_some_iff.1 hp2).1
            rw [HPL.out] at hi2
            have HROW : Hid (∀ W, Kept wr W → Calls Try.prog 61 #[.pointer (some ⟨sp.d, 0, none⟩)] W fun e w' => e = .returned (.agg #[.int .i64 (N c).kind, .int .i64 (N c).n, .int .i64 (N c).l1, .int .i64 (N c).l2, .int .i64 ((N c).kids.length : Int), .int .i64 (i2 : Int)]) ∧ Kept W w') := fun W hW => by
              have h1 := rrow_is (show RIs W sp.d (X sp.d) from ⟨0, _, (HRI.out.kb ((gtrans HKW8.out (gtrans HJ.out hW)).kb (Nat.le_refl _)) sp.d hspQ).1⟩)
              rw [← z3, z4, z6, z7, z9, hpl2] at h1
              exact h1
            have HSAME : Hid (∀ W, Kept wr W → Calls Try.prog 60 #[.pointer (some ⟨fb, 0, none⟩), .agg #[.int .i64 (N c).kind, .int .i64 (N c).n, .int .i64 (N c).l1, .int .i64 (N c).l2, .int .i64 ((N c).kids.length : Int), .int .i64 ((N c).num : Int)], .agg #[.int .i64 (N c).kind, .int .i64 (N c).n, .int .i64 (N c).l1, .int .i64 (N c).l2, .int .i64 ((N c).kids.length : Int), .int .i64 (i2 : Int)]] W fun e w' => e = .returned (.bool true) ∧ Kept W w') := fun W hW => by
              have hW' := gtrans HKW8.out (gtrans HJ.out hW)
              exact sameRow_is fb gp L cp i2 c w.heap.size (N c) _ _ _ _ _ W (grown_cell hW' HC2.out) hi2 (by omega) (grown_cell hW' hcp2) ((HFO.out c hcP).1.keep hW')
            have o0 := keeps (grown_cell HJ.out (hcl 0 _ rfl))
            have o1 := keeps (grown_cell HJ.out (hcl 1 _ rfl))
            have o2 := keeps (grown_cell HJ.out (hcl 2 _ rfl))
            have o3 := keeps (grown_cell HJ.out (hcl 3 _ rfl))
            have o4 := keeps (grown_cell HJ.out (hcl 4 _ rfl))
            have o5 := keeps (grown_cell HJ.out (hcl 5 _ rfl))
            have o6 := keeps (grown_cell HJ.out hs0)
            simp only [Nat.add_zero] at o0
            have hjI : (j : Int) < (sz : Int) := by omega
            generalize (N c).kind = a0 at *
            generalize (N c).n = a1 at *
            generalize (N c).l1 = a2 at *
            generalize (N c).l2 = a3 at *
            generalize (N c).kids.length = a4 at *
            generalize (N c).num = a5 at *
            generalize sp.d = sd at *
            clear hxl hx hsp hspc hspQ hrr hcl hss hs0 z2 z3 z4 z5 z6 z7 z8 z9 hp2 hpl2 hcP hcp2
            go_upto_region 25 with fail
            go_region_held3 (fun W => Kept wr W) (first | assumption | exact Kept.refl _ | exact drew_kept _ | exact gtrans (by assumption) (drew_kept _))
              ((first
              | (go_at_call 61; refine (HROW.out _ (by first | exact Kept.refl _ | exact drew_kept _)).mono ?_; rintro e w10 ⟨rfl, hk10⟩; have k10 : Kept wr w10 := gtrans (by first | exact Kept.refl _ | exact drew_kept _) hk10)
              | (go_at_call 60; refine (HSAME.out _ (by first | exact k10 | exact gtrans k10 (drew_kept _))).mono ?_; rintro e w11 ⟨rfl, hk11⟩; have k11 : Kept wr w11 := gtrans (by first | exact k10 | exact gtrans k10 (drew_kept _)) hk11)))
            have HK11 := hide1 k11
            clear k10 k11 hk10 hk11 o0 o1 o2 o3 o4 o5 o6
            go_wp2_with fail
            go_roundw
            case rel => exact ⟨j + 1, by omega, by go_num, gtrans HJ.out HK11.out⟩
            case measure => simp [intOf]; omega
          · have hjj : ¬ (j : Int) < (sz : Int) := by omega
            go_wp2_with fail
            go_ret
            exact ⟨rfl, gtrans HKW8.out HJ.out⟩

end Tr
end Ex
end Go.Proofs.Ytpbnjdnlgcfiiaa
