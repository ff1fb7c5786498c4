import Derived.Test.YtooelfjceehmmaaDoorMSpEf
import Derived.Deep.Cut
import Derived.Deep.RegionHeld3
import Derived.BigQuiet
namespace Go.Proofs.YtooelfjceehmmaaDoor
open Go.RowKit
attribute [local go_sem] Oper.semAt_some
namespace Ex
open Sh

def nthH : List Value → Nat → Value
  | [], _ => undef
  | x :: _, 0 => x
  | _ :: xs, n + 1 => nthH xs n
def twoS : List SymM := [(91, 0), (92, 0)]
def twoI : List Int := [-91, -92]
theorem src_two {w : World} {g : Nat} (h : w.heap[g]? = some (.cells #[.int .i64 91, .int .i64 0, .int .i64 92, .int .i64 0] 58 (0, 0))) : Src syE w (some ⟨g, 0, none⟩) twoS := by
  refine .inr ⟨g, 0, rfl, fun j u hj => ?_⟩
  rw [Nat.zero_add]
  simp only [World.cell?, h]
  have e : flatE syE twoS = [.int .i64 91, .int .i64 0, .int .i64 92, .int .i64 0] := rfl
  rw [e] at hj
  simpa using hj
theorem src_twoI {w : World} {g : Nat} (h : w.heap[g]? = some (.cells #[.int .i64 (-91), .int .i64 (-92)] 3 (0, 0))) : Src inE w (some ⟨g, 0, none⟩) twoI := by
  refine .inr ⟨g, 0, rfl, fun j u hj => ?_⟩
  rw [Nat.zero_add]
  simp only [World.cell?, h]
  have e : flatE inE twoI = [.int .i64 (-91), .int .i64 (-92)] := rfl
  rw [e] at hj
  simpa using hj
theorem lo_someH {α : Type} {E : ElK α} {w : World} {base n c : Nat} {a : Option Addr} {l : List α} (h : LO E w base (.slice a n c) l) (hl : l ≠ []) : ∃ g, a = some ⟨g, 0, none⟩ := by
  rcases h.2 with ⟨_, h0⟩ | ⟨g, cap, cur, he, _⟩
  · exact absurd (List.length_eq_zero_iff.1 h0) hl
  · injection he with e1; exact ⟨g, e1⟩
theorem alloc_ltH (w : World) (o : Obj) : w.heap.size < (w.alloc o).heap.size := by simp
theorem lo_capH {α : Type} {E : ElK α} {w : World} {base n c : Nat} {a : Option Addr} {l : List α} (h : LO E w base (.slice a n c) l) : n = l.length ∧ n ≤ c := by
  rcases h.2 with ⟨he, h0⟩ | ⟨g, cap, cur, he, _, _, hc, _⟩
  · injection he with e1 e2 e3
    omega
  · injection he with e1 e2 e3
    omega
set_option maxRecDepth 100000 in
def HsF (aa : Option Addr) (na ca b0 sb : Nat) (v6 v7 : Value) (i : Nat) (a : Act) : Prop := ∃ T : Nat → Value, a = { tmps := List.toArray (T 0 :: (.slice aa na ca) :: (.pointer (some ⟨b0, 0, none⟩)) :: T 3 :: T 4 :: (.pointer (some ⟨sb, 0, none⟩)) :: v6 :: v7 :: (.int .i64 (i : Int)) :: T 9 :: T 10 :: T 11 :: T 12 :: T 13 :: T 14 :: T 15 :: T 16 :: T 17 :: T 18 :: T 19 :: T 20 :: T 21 :: T 22 :: T 23 :: T 24 :: T 25 :: T 26 :: T 27 :: T 28 :: T 29 :: T 30 :: T 31 :: T 32 :: T 33 :: T 34 :: T 35 :: T 36 :: T 37 :: T 38 :: T 39 :: T 40 :: T 41 :: T 42 :: T 43 :: T 44 :: T 45 :: T 46 :: T 47 :: T 48 :: T 49 :: T 50 :: T 51 :: T 52 :: T 53 :: T 54 :: T 55 :: T 56 :: T 57 :: T 58 :: T 59 :: T 60 :: T 61 :: T 62 :: T 63 :: T 64 :: T 65 :: T 66 :: T 67 :: T 68 :: T 69 :: T 70 :: T 71 :: T 72 :: T 73 :: T 74 :: T 75 :: T 76 :: T 77 :: T 78 :: T 79 :: T 80 :: T 81 :: T 82 :: T 83 :: T 84 :: T 85 :: T 86 :: T 87 :: T 88 :: T 89 :: T 90 :: T 91 :: T 92 :: T 93 :: T 94 :: T 95 :: T 96 :: T 97 :: T 98 :: T 99 :: T 100 :: T 101 :: T 102 :: T 103 :: T 104 :: T 105 :: T 106 :: T 107 :: T 108 :: T 109 :: T 110 :: T 111 :: T 112 :: T 113 :: T 114 :: T 115 :: T 116 :: T 117 :: T 118 :: T 119 :: T 120 :: T 121 :: T 122 :: T 123 :: T 124 :: T 125 :: T 126 :: T 127 :: T 128 :: T 129 :: T 130 :: T 131 :: T 132 :: T 133 :: T 134 :: T 135 :: T 136 :: T 137 :: T 138 :: T 139 :: T 140 :: T 141 :: T 142 :: T 143 :: T 144 :: T 145 :: T 146 :: T 147 :: T 148 :: T 149 :: T 150 :: T 151 :: T 152 :: T 153 :: T 154 :: T 155 :: T 156 :: T 157 :: T 158 :: T 159 :: T 160 :: T 161 :: T 162 :: T 163 :: []), defers := [] }
set_option maxRecDepth 100000 in
theorem hsF_of {aa : Option Addr} {na ca b0 sb : Nat} {v6 v7 : Value} {i : Nat} (L : List Value) (h : L = nthH L 0 :: (.slice aa na ca) :: (.pointer (some ⟨b0, 0, none⟩)) :: nthH L 3 :: nthH L 4 :: (.pointer (some ⟨sb, 0, none⟩)) :: v6 :: v7 :: (.int .i64 (i : Int)) :: nthH L 9 :: nthH L 10 :: nthH L 11 :: nthH L 12 :: nthH L 13 :: nthH L 14 :: nthH L 15 :: nthH L 16 :: nthH L 17 :: nthH L 18 :: nthH L 19 :: nthH L 20 :: nthH L 21 :: nthH L 22 :: nthH L 23 :: nthH L 24 :: nthH L 25 :: nthH L 26 :: nthH L 27 :: nthH L 28 :: nthH L 29 :: nthH L 30 :: nthH L 31 :: nthH L 32 :: nthH L 33 :: nthH L 34 :: nthH L 35 :: nthH L 36 :: nthH L 37 :: nthH L 38 :: nthH L 39 :: nthH L 40 :: nthH L 41 :: nthH L 42 :: nthH L 43 :: nthH L 44 :: nthH L 45 :: nthH L 46 :: nthH L 47 :: nthH L 48 :: nthH L 49 :: nthH L 50 :: nthH L 51 :: nthH L 52 :: nthH L 53 :: nthH L 54 :: nthH L 55 :: nthH L 56 :: nthH L 57 :: nthH L 58 :: nthH L 59 :: nthH L 60 :: nthH L 61 :: nthH L 62 :: nthH L 63 :: nthH L 64 :: nthH L 65 :: nthH L 66 :: nthH L 67 :: nthH L 68 :: nthH L 69 :: nthH L 70 :: nthH L 71 :: nthH L 72 :: nthH L 73 :: nthH L 74 :: nthH L 75 :: nthH L 76 :: nthH L 77 :: nthH L 78 :: nthH L 79 :: nthH L 80 :: nthH L 81 :: nthH L 82 :: nthH L 83 :: nthH L 84 :: nthH L 85 :: nthH L 86 :: nthH L 87 :: nthH L 88 :: nthH L 89 :: nthH L 90 :: nthH L 91 :: nthH L 92 :: nthH L 93 :: nthH L 94 :: nthH L 95 :: nthH L 96 :: nthH L 97 :: nthH L 98 :: nthH L 99 :: nthH L 100 :: nthH L 101 :: nthH L 102 :: nthH L 103 :: nthH L 104 :: nthH L 105 :: nthH L 106 :: nthH L 107 :: nthH L 108 :: nthH L 109 :: nthH L 110 :: nthH L 111 :: nthH L 112 :: nthH L 113 :: nthH L 114 :: nthH L 115 :: nthH L 116 :: nthH L 117 :: nthH L 118 :: nthH L 119 :: nthH L 120 :: nthH L 121 :: nthH L 122 :: nthH L 123 :: nthH L 124 :: nthH L 125 :: nthH L 126 :: nthH L 127 :: nthH L 128 :: nthH L 129 :: nthH L 130 :: nthH L 131 :: nthH L 132 :: nthH L 133 :: nthH L 134 :: nthH L 135 :: nthH L 136 :: nthH L 137 :: nthH L 138 :: nthH L 139 :: nthH L 140 :: nthH L 141 :: nthH L 142 :: nthH L 143 :: nthH L 144 :: nthH L 145 :: nthH L 146 :: nthH L 147 :: nthH L 148 :: nthH L 149 :: nthH L 150 :: nthH L 151 :: nthH L 152 :: nthH L 153 :: nthH L 154 :: nthH L 155 :: nthH L 156 :: nthH L 157 :: nthH L 158 :: nthH L 159 :: nthH L 160 :: nthH L 161 :: nthH L 162 :: nthH L 163 :: []) : HsF aa na ca b0 sb v6 v7 i { tmps := L.toArray, defers := [] } := ⟨fun k => nthH L k, by rw [← h]⟩
set_option maxRecDepth 100000 in
def HsH (aa : Option Addr) (na ca b0 sb : Nat) (v6 v7 : Value) (i nr m : Nat) (v11 : Value) (fb : Nat) (a : Act) : Prop := ∃ T : Nat → Value, a = { tmps := List.toArray (T 0 :: (.slice aa na ca) :: (.pointer (some ⟨b0, 0, none⟩)) :: T 3 :: T 4 :: (.pointer (some ⟨sb, 0, none⟩)) :: v6 :: v7 :: (.int .i64 (i : Int)) :: (.int .i64 (nr : Int)) :: (.int .i64 (m : Int)) :: v11 :: (.pointer (some ⟨fb, 0, none⟩)) :: T 13 :: T 14 :: T 15 :: T 16 :: T 17 :: T 18 :: T 19 :: T 20 :: T 21 :: T 22 :: T 23 :: T 24 :: T 25 :: T 26 :: T 27 :: T 28 :: T 29 :: T 30 :: T 31 :: T 32 :: T 33 :: T 34 :: T 35 :: T 36 :: T 37 :: T 38 :: T 39 :: T 40 :: T 41 :: T 42 :: T 43 :: T 44 :: T 45 :: T 46 :: T 47 :: T 48 :: T 49 :: T 50 :: T 51 :: T 52 :: T 53 :: T 54 :: T 55 :: T 56 :: T 57 :: T 58 :: T 59 :: T 60 :: T 61 :: T 62 :: T 63 :: T 64 :: T 65 :: T 66 :: T 67 :: T 68 :: T 69 :: T 70 :: T 71 :: T 72 :: T 73 :: T 74 :: T 75 :: T 76 :: T 77 :: T 78 :: T 79 :: T 80 :: T 81 :: T 82 :: T 83 :: T 84 :: T 85 :: T 86 :: T 87 :: T 88 :: T 89 :: T 90 :: T 91 :: T 92 :: T 93 :: T 94 :: T 95 :: T 96 :: T 97 :: T 98 :: T 99 :: T 100 :: T 101 :: T 102 :: T 103 :: T 104 :: T 105 :: T 106 :: T 107 :: T 108 :: T 109 :: T 110 :: T 111 :: T 112 :: T 113 :: T 114 :: T 115 :: T 116 :: T 117 :: T 118 :: T 119 :: T 120 :: T 121 :: T 122 :: T 123 :: T 124 :: T 125 :: T 126 :: T 127 :: T 128 :: T 129 :: T 130 :: T 131 :: T 132 :: T 133 :: T 134 :: T 135 :: T 136 :: T 137 :: T 138 :: T 139 :: T 140 :: T 141 :: T 142 :: T 143 :: T 144 :: T 145 :: T 146 :: T 147 :: T 148 :: T 149 :: T 150 :: T 151 :: T 152 :: T 153 :: T 154 :: T 155 :: T 156 :: T 157 :: T 158 :: T 159 :: T 160 :: T 161 :: T 162 :: T 163 :: []), defers := [] }
set_option maxRecDepth 100000 in
theorem hsH_of {aa : Option Addr} {na ca b0 sb : Nat} {v6 v7 : Value} {i nr m : Nat} {v11 : Value} {fb : Nat} (L : List Value) (h : L = nthH L 0 :: (.slice aa na ca) :: (.pointer (some ⟨b0, 0, none⟩)) :: nthH L 3 :: nthH L 4 :: (.pointer (some ⟨sb, 0, none⟩)) :: v6 :: v7 :: (.int .i64 (i : Int)) :: (.int .i64 (nr : Int)) :: (.int .i64 (m : Int)) :: v11 :: (.pointer (some ⟨fb, 0, none⟩)) :: nthH L 13 :: nthH L 14 :: nthH L 15 :: nthH L 16 :: nthH L 17 :: nthH L 18 :: nthH L 19 :: nthH L 20 :: nthH L 21 :: nthH L 22 :: nthH L 23 :: nthH L 24 :: nthH L 25 :: nthH L 26 :: nthH L 27 :: nthH L 28 :: nthH L 29 :: nthH L 30 :: nthH L 31 :: nthH L 32 :: nthH L 33 :: nthH L 34 :: nthH L 35 :: nthH L 36 :: nthH L 37 :: nthH L 38 :: nthH L 39 :: nthH L 40 :: nthH L 41 :: nthH L 42 :: nthH L 43 :: nthH L 44 :: nthH L 45 :: nthH L 46 :: nthH L 47 :: nthH L 48 :: nthH L 49 :: nthH L 50 :: nthH L 51 :: nthH L 52 :: nthH L 53 :: nthH L 54 :: nthH L 55 :: nthH L 56 :: nthH L 57 :: nthH L 58 :: nthH L 59 :: nthH L 60 :: nthH L 61 :: nthH L 62 :: nthH L 63 :: nthH L 64 :: nthH L 65 :: nthH L 66 :: nthH L 67 :: nthH L 68 :: nthH L 69 :: nthH L 70 :: nthH L 71 :: nthH L 72 :: nthH L 73 :: nthH L 74 :: nthH L 75 :: nthH L 76 :: nthH L 77 :: nthH L 78 :: nthH L 79 :: nthH L 80 :: nthH L 81 :: nthH L 82 :: nthH L 83 :: nthH L 84 :: nthH L 85 :: nthH L 86 :: nthH L 87 :: nthH L 88 :: nthH L 89 :: nthH L 90 :: nthH L 91 :: nthH L 92 :: nthH L 93 :: nthH L 94 :: nthH L 95 :: nthH L 96 :: nthH L 97 :: nthH L 98 :: nthH L 99 :: nthH L 100 :: nthH L 101 :: nthH L 102 :: nthH L 103 :: nthH L 104 :: nthH L 105 :: nthH L 106 :: nthH L 107 :: nthH L 108 :: nthH L 109 :: nthH L 110 :: nthH L 111 :: nthH L 112 :: nthH L 113 :: nthH L 114 :: nthH L 115 :: nthH L 116 :: nthH L 117 :: nthH L 118 :: nthH L 119 :: nthH L 120 :: nthH L 121 :: nthH L 122 :: nthH L 123 :: nthH L 124 :: nthH L 125 :: nthH L 126 :: nthH L 127 :: nthH L 128 :: nthH L 129 :: nthH L 130 :: nthH L 131 :: nthH L 132 :: nthH L 133 :: nthH L 134 :: nthH L 135 :: nthH L 136 :: nthH L 137 :: nthH L 138 :: nthH L 139 :: nthH L 140 :: nthH L 141 :: nthH L 142 :: nthH L 143 :: nthH L 144 :: nthH L 145 :: nthH L 146 :: nthH L 147 :: nthH L 148 :: nthH L 149 :: nthH L 150 :: nthH L 151 :: nthH L 152 :: nthH L 153 :: nthH L 154 :: nthH L 155 :: nthH L 156 :: nthH L 157 :: nthH L 158 :: nthH L 159 :: nthH L 160 :: nthH L 161 :: nthH L 162 :: nthH L 163 :: []) : HsH aa na ca b0 sb v6 v7 i nr m v11 fb { tmps := L.toArray, defers := [] } := ⟨fun k => nthH L k, by rw [← h]⟩
set_option maxRecDepth 100000 in
def HsK (aa : Option Addr) (na ca b0 sb : Nat) (v6 v7 : Value) (i nr q : Nat) (a : Act) : Prop := ∃ T : Nat → Value, a = { tmps := List.toArray (T 0 :: (.slice aa na ca) :: (.pointer (some ⟨b0, 0, none⟩)) :: T 3 :: T 4 :: (.pointer (some ⟨sb, 0, none⟩)) :: v6 :: v7 :: (.int .i64 (i : Int)) :: (.int .i64 (nr : Int)) :: T 10 :: T 11 :: T 12 :: T 13 :: T 14 :: T 15 :: (.int .i64 (q : Int)) :: T 17 :: T 18 :: T 19 :: T 20 :: T 21 :: T 22 :: T 23 :: T 24 :: T 25 :: T 26 :: T 27 :: T 28 :: T 29 :: T 30 :: T 31 :: T 32 :: T 33 :: T 34 :: T 35 :: T 36 :: T 37 :: T 38 :: T 39 :: T 40 :: T 41 :: T 42 :: T 43 :: T 44 :: T 45 :: T 46 :: T 47 :: T 48 :: T 49 :: T 50 :: T 51 :: T 52 :: T 53 :: T 54 :: T 55 :: T 56 :: T 57 :: T 58 :: T 59 :: T 60 :: T 61 :: T 62 :: T 63 :: T 64 :: T 65 :: T 66 :: T 67 :: T 68 :: T 69 :: T 70 :: T 71 :: T 72 :: T 73 :: T 74 :: T 75 :: T 76 :: T 77 :: T 78 :: T 79 :: T 80 :: T 81 :: T 82 :: T 83 :: T 84 :: T 85 :: T 86 :: T 87 :: T 88 :: T 89 :: T 90 :: T 91 :: T 92 :: T 93 :: T 94 :: T 95 :: T 96 :: T 97 :: T 98 :: T 99 :: T 100 :: T 101 :: T 102 :: T 103 :: T 104 :: T 105 :: T 106 :: T 107 :: T 108 :: T 109 :: T 110 :: T 111 :: T 112 :: T 113 :: T 114 :: T 115 :: T 116 :: T 117 :: T 118 :: T 119 :: T 120 :: T 121 :: T 122 :: T 123 :: T 124 :: T 125 :: T 126 :: T 127 :: T 128 :: T 129 :: T 130 :: T 131 :: T 132 :: T 133 :: T 134 :: T 135 :: T 136 :: T 137 :: T 138 :: T 139 :: T 140 :: T 141 :: T 142 :: T 143 :: T 144 :: T 145 :: T 146 :: T 147 :: T 148 :: T 149 :: T 150 :: T 151 :: T 152 :: T 153 :: T 154 :: T 155 :: T 156 :: T 157 :: T 158 :: T 159 :: T 160 :: T 161 :: T 162 :: T 163 :: []), defers := [] }
set_option maxRecDepth 100000 in
theorem hsK_of {aa : Option Addr} {na ca b0 sb : Nat} {v6 v7 : Value} {i nr q : Nat} (L : List Value) (h : L = nthH L 0 :: (.slice aa na ca) :: (.pointer (some ⟨b0, 0, none⟩)) :: nthH L 3 :: nthH L 4 :: (.pointer (some ⟨sb, 0, none⟩)) :: v6 :: v7 :: (.int .i64 (i : Int)) :: (.int .i64 (nr : Int)) :: nthH L 10 :: nthH L 11 :: nthH L 12 :: nthH L 13 :: nthH L 14 :: nthH L 15 :: (.int .i64 (q : Int)) :: nthH L 17 :: nthH L 18 :: nthH L 19 :: nthH L 20 :: nthH L 21 :: nthH L 22 :: nthH L 23 :: nthH L 24 :: nthH L 25 :: nthH L 26 :: nthH L 27 :: nthH L 28 :: nthH L 29 :: nthH L 30 :: nthH L 31 :: nthH L 32 :: nthH L 33 :: nthH L 34 :: nthH L 35 :: nthH L 36 :: nthH L 37 :: nthH L 38 :: nthH L 39 :: nthH L 40 :: nthH L 41 :: nthH L 42 :: nthH L 43 :: nthH L 44 :: nthH L 45 :: nthH L 46 :: nthH L 47 :: nthH L 48 :: nthH L 49 :: nthH L 50 :: nthH L 51 :: nthH L 52 :: nthH L 53 :: nthH L 54 :: nthH L 55 :: nthH L 56 :: nthH L 57 :: nthH L 58 :: nthH L 59 :: nthH L 60 :: nthH L 61 :: nthH L 62 :: nthH L 63 :: nthH L 64 :: nthH L 65 :: nthH L 66 :: nthH L 67 :: nthH L 68 :: nthH L 69 :: nthH L 70 :: nthH L 71 :: nthH L 72 :: nthH L 73 :: nthH L 74 :: nthH L 75 :: nthH L 76 :: nthH L 77 :: nthH L 78 :: nthH L 79 :: nthH L 80 :: nthH L 81 :: nthH L 82 :: nthH L 83 :: nthH L 84 :: nthH L 85 :: nthH L 86 :: nthH L 87 :: nthH L 88 :: nthH L 89 :: nthH L 90 :: nthH L 91 :: nthH L 92 :: nthH L 93 :: nthH L 94 :: nthH L 95 :: nthH L 96 :: nthH L 97 :: nthH L 98 :: nthH L 99 :: nthH L 100 :: nthH L 101 :: nthH L 102 :: nthH L 103 :: nthH L 104 :: nthH L 105 :: nthH L 106 :: nthH L 107 :: nthH L 108 :: nthH L 109 :: nthH L 110 :: nthH L 111 :: nthH L 112 :: nthH L 113 :: nthH L 114 :: nthH L 115 :: nthH L 116 :: nthH L 117 :: nthH L 118 :: nthH L 119 :: nthH L 120 :: nthH L 121 :: nthH L 122 :: nthH L 123 :: nthH L 124 :: nthH L 125 :: nthH L 126 :: nthH L 127 :: nthH L 128 :: nthH L 129 :: nthH L 130 :: nthH L 131 :: nthH L 132 :: nthH L 133 :: nthH L 134 :: nthH L 135 :: nthH L 136 :: nthH L 137 :: nthH L 138 :: nthH L 139 :: nthH L 140 :: nthH L 141 :: nthH L 142 :: nthH L 143 :: nthH L 144 :: nthH L 145 :: nthH L 146 :: nthH L 147 :: nthH L 148 :: nthH L 149 :: nthH L 150 :: nthH L 151 :: nthH L 152 :: nthH L 153 :: nthH L 154 :: nthH L 155 :: nthH L 156 :: nthH L 157 :: nthH L 158 :: nthH L 159 :: nthH L 160 :: nthH L 161 :: nthH L 162 :: nthH L 163 :: []) : HsK aa na ca b0 sb v6 v7 i nr q { tmps := L.toArray, defers := [] } := ⟨fun k => nthH L k, by rw [← h]⟩
def HsI (aa : Option Addr) (na ca b0 sb : Nat) (W3 : World) (a' : Act) (wr : World) : Prop := ∃ (i : Nat) (v6 v7 : Value) (l6 : List SymM) (l7 : List Int), HsF aa na ca b0 sb v6 v7 i a' ∧ i ≤ na ∧ Hid (LO syE wr W3.heap.size v6 l6 ∧ LO inE wr W3.heap.size v7 l7 ∧ Kept W3 wr)
def HsJ (aa : Option Addr) (na ca b0 sb : Nat) (v6 v7 : Value) (i nr : Nat) (W : World) (a' : Act) (wr : World) : Prop := ∃ q : Nat, HsK aa na ca b0 sb v6 v7 i nr q a' ∧ q ≤ nr ∧ Hid (Kept W wr)
set_option linter.unusedSimpArgs false in
set_option maxRecDepth 100000 in
set_option maxHeartbeats 32000000 in
/-- The law SetsHeads. -/
theorem lawHeads (k : Nat) (lex : List (LexM k)) (names : List ByteArray) (ps : List ProdM) (asks : List AskM) (al an ap aa : Option Addr) (nl cl nn cn np cp na ca : Nat) (st : Int) (w : World) (hlex : lex.length = nl) (hnames : names.length = nn) (hps : ps.length = np) (hna : asks.length = na) (hsz : nl * 88 ≤ 140737488351232 ∧ nn * 16 ≤ 140737488351232 ∧ np * 32 ≤ 140737488351232 ∧ ∀ p ∈ ps, p.2.length * 16 ≤ 140737488351232) (hl : LexAt w k (.slice al nl cl) lex) (hn : NamesAt w (.slice an nn cn) names) (hp : ProdsAt w (.slice ap np cp) ps) (hA : AsksAt w (.slice aa na ca) asks) (hT : TabAt w) :
    Calls Tryd.prog 4 #[.agg #[.slice al nl cl, .slice an nn cn, .int .i64 st, .slice ap np cp], .slice aa na ca] w fun e w' => e = .returned (.bool true) ∧ Kept w w' := by
  have HK0 : Hid (Kept w (w.alloc (.cells #[.slice al nl cl, .slice an nn cn, .int .i64 st, .slice ap np cp] 26))) := (Kept.refl w).alloc _ _
  have HB0 := hide1 (SBox.new w (.slice al nl cl) (.slice an nn cn) (.int .i64 st) (.slice ap np cp))
  have HLS : Hid (∀ l ∈ lex, l.1.size ≤ 200000000000000) := lex_sizes hl
  have HROW : Hid (∀ p ∈ ps, p.2.length ≤ 8796093022207) := fun p hp => by have := hsz.2.2.2 p hp; omega
  obtain ⟨_, _, ea0, hca, hn44⟩ := SliceOf.len hA
  simp only [Value.slice.injEq] at ea0
  obtain ⟨rfl, ean, rfl⟩ := ea0
  clear ean
  rw [hna] at hca hn44
  have hcaI : (na : Int) ≤ (ca : Int) := by omega
  have hnaI : (na : Int) ≤ 17592186044416 := by omega
  have hz1 : nl ≤ 1600000000000 := by omega
  have hz2 : nn ≤ 8796093022207 := by omega
  have hz3 : np ≤ 4398046511103 := by omega
  have HT := hide1 hT
  have HL := hide1 hl
  have HN := hide1 hn
  have HP := hide1 hp
  have HAS := hide1 hA
  have HNA := hide1 hna
  have HLEN := hide1 hlex
  have HNAM := hide1 hnames
  have HPS := hide1 hps
  have HZZ := hide1 hsz
  clear hlex hnames hps hna hsz hl hn hp hA hT hca hn44
  go_enter Tryd.func4, Tryd.ntmps4
  go_upto_region 1 with fail
  obtain ⟨W0, hW0⟩ : ∃ W0, w.alloc (.cells #[.slice al nl cl, .slice an nn cn, .int .i64 st, .slice ap np cp] 26) = W0 := ⟨_, rfl⟩
  rw [hW0] at HK0 HB0 ⊢
  clear hW0
  obtain ⟨b0, hb0⟩ : ∃ b0, w.heap.size = b0 := ⟨_, rfl⟩
  rw [hb0] at HB0 ⊢
  clear hb0
  go_upto_region 3 with (go_at_call 6; refine (head_is7 W0 (HT.out.keep HK0.out)).mono ?_; rintro e w2 ⟨rfl, hk9⟩; have HK2 := hide1 hk9; clear hk9)
  have HKX := hide1 (gtrans HK0.out HK2.out)
  obtain ⟨s0, s1, s2, s3⟩ := (HB0.out.keep HK2.out).facts
  go_upto_region 4 with (go_at_call 14; refine (lend_is k lex names ps al an ap nl cl nn cn np cp st w2 HLEN.out HNAM.out HPS.out HZZ.out (HL.out.keep HKX.out) (HN.out.keep HKX.out) (HP.out.keep HKX.out)).mono ?_; rintro e w3 ⟨g, gn, gq, rfl, hlt1, hk1⟩; have HLT1 := hide1 hlt1; have HK3 := hide1 hk1; clear hlt1 hk1)
  clear s0 s1 s2 s3
  have HSB1 := hide1 (SBox.new w3 (.slice (some ⟨g, 0, none⟩) nl (nl + 1)) (.slice (some ⟨gn, 0, none⟩) nn (nn + 1)) (.int .i64 st) (.slice (some ⟨gq, 0, none⟩) np (np + 1)))
  have HA1 : Hid (Kept w3 (w3.alloc (.cells #[.slice (some ⟨g, 0, none⟩) nl (nl + 1), .slice (some ⟨gn, 0, none⟩) nn (nn + 1), .int .i64 st, .slice (some ⟨gq, 0, none⟩) np (np + 1)] 26))) := (Kept.refl w3).alloc _ _
  obtain ⟨W3, hW3⟩ : ∃ W3, w3.alloc (.cells #[.slice (some ⟨g, 0, none⟩) nl (nl + 1), .slice (some ⟨gn, 0, none⟩) nn (nn + 1), .int .i64 st, .slice (some ⟨gq, 0, none⟩) np (np + 1)] 26) = W3 := ⟨_, rfl⟩
  rw [hW3] at HSB1 HA1 ⊢
  clear hW3
  obtain ⟨sb, hsb⟩ : ∃ sb, w3.heap.size = sb := ⟨_, rfl⟩
  rw [hsb] at HSB1 ⊢
  clear hsb
  have HSB := HSB1
  have HLT := hide1 (HLT1.out.keep HA1.out)
  have HK03 := hide1 (gtrans HKX.out (gtrans HK3.out HA1.out))
  have HBB := hide1 (HB0.out.keep (gtrans HK2.out (gtrans HK3.out HA1.out)))
  clear HSB1 HLT1 HA1 HK3 HKX HK2 HB0 HK0
  have HLX : Hid (∀ w', Kept W3 w' → LexAt w' k (.slice (some ⟨g, 0, none⟩) nl (nl + 1)) lex) := fun w' hk' => (HLT.out.keep hk').lexAt HLEN.out (by omega) HLS.out
  have HPX : Hid (∀ w', Kept W3 w' → ProdsAt w' (.slice (some ⟨gq, 0, none⟩) np (np + 1)) ps) := fun w' hk' => (HLT.out.keep hk').prodsAt HPS.out (by omega) (fun p hp => by have := HROW.out p hp; omega)
  have HTX : Hid (∀ w', Kept W3 w' → TabAt w') := fun w' hk' => HT.out.keep (gtrans HK03.out hk')
  have HPRG : Hid (∀ (w' : World) (ar ax : Option Addr) (nr cr m cx : Nat) (row : List SymM) (next : List Int), Kept W3 w' → row.length = nr → next.length = m → RightAt w' (.slice ar nr cr) row → IntsR w' (.slice ax m cx) next → Calls Tryd.prog 9 #[.agg #[.slice (some ⟨g, 0, none⟩) nl (nl + 1), .slice (some ⟨gn, 0, none⟩) nn (nn + 1), .int .i64 st, .slice (some ⟨gq, 0, none⟩) np (np + 1)], .slice ar nr cr, .slice ax m cx] w' fun e w2 => ∃ (v : Value) (x : Int × Int) (l : List Int), e = .returned (.tuple #[v, .agg #[.int .i64 x.1, .int .i64 x.2, .string ⟨#[]⟩]]) ∧ HdA lex ps nn nl st row next x l ∧ IntsO w2 w'.heap.size v l ∧ Kept w' w2) :=
    fun w' ar ax nr cr m cx row next hk' h1 h2 h3 h4 => (sHeads_is k lex ps _ _ _ ar ax nl (nl + 1) nn (nn + 1) np (np + 1) nr cr m cx st row next w' (by omega) HLEN.out HPS.out h1 h2 (HLX.out w' hk') (HPX.out w' hk') h3 h4 (HTX.out w' hk')).mono fun e w2 h => prog_ans HLEN.out h
  have HDOC : Hid (∀ (w' : World) (ar ax : Option Addr) (nr cr m cx : Nat) (row : List SymM) (next : List Int), Kept W3 w' → row.length = nr → next.length = m → RightAt w' (.slice ar nr cr) row → IntsR w' (.slice ax m cx) next → Calls Tryd.prog 16 #[.agg #[.slice al nl cl, .slice an nn cn, .int .i64 st, .slice ap np cp], .slice ar nr cr, .slice ax m cx] w' fun e w2 => ∃ (v : Value) (x : Int × Int) (l : List Int), e = .returned (.tuple #[v, .int .i64 x.2, .int .i64 x.1]) ∧ HdA lex ps nn nl st row next x l ∧ IntsO w2 w'.heap.size v l ∧ Kept w' w2) :=
    fun w' ar ax nr cr m cx row next hk' h1 h2 h3 h4 => (dHeads_is k lex ps al an ap ar ax nl cl nn cn np cp nr cr m cx st row next w' (by omega) HLEN.out HPS.out h1 h2 (HL.out.keep (gtrans HK03.out hk')) (HP.out.keep (gtrans HK03.out hk')) h3 h4).mono fun e w2 h => doc_ans HLEN.out h
  go_wp2_with fail
  refine wp_loop (HsI aa na ca b0 sb W3) (fun a' _ => na - (intOf (a'.tmps.getD 8 undef)).toNat) ?_ ?_
  · exact ⟨0, _, _, [], [], hsF_of _ (by kernel_rfl), Nat.zero_le _, LO.nil _ _, LO.nil _ _, Kept.refl W3⟩
  · rintro a' wr ⟨i, v6, v7, l6, l7, ⟨T, rfl⟩, hi, HI⟩
    by_cases hlt : (i : Int) < (na : Int)
    · obtain ⟨⟨row, next⟩, hx⟩ : ∃ x, asks[i]? = some x := ⟨_, List.getElem?_eq_getElem (by have := HNA.out; omega)⟩
      obtain ⟨ag, ao, cs, ea, hcb, hlen, hcell, vr, vn, hcs, hrt, hnx, hzr, hzn⟩ := SliceOf.el (HAS.out.keep HK03.out) hx
      subst ea hcs
      obtain ⟨ra, rc, rfl⟩ := HI.out.1.form
      obtain ⟨xa, xc, rfl⟩ := HI.out.2.1.form
      obtain ⟨ar, cr, rfl, hcr, hr44⟩ := SliceOf.len hrt
      obtain ⟨ax, cx, rfl, hcx, hx44⟩ := SliceOf.len hnx
      obtain ⟨n6, hn6⟩ : ∃ n, l6.length = n := ⟨_, rfl⟩
      obtain ⟨n7, hn7⟩ : ∃ n, l7.length = n := ⟨_, rfl⟩
      obtain ⟨nr, hnr⟩ : ∃ n, row.length = n := ⟨_, rfl⟩
      obtain ⟨m, hm⟩ : ∃ n, next.length = n := ⟨_, rfl⟩
      rw [hn6, hn7] at HI
      try rw [hn6]
      try rw [hn7]
      simp only [hnr] at hrt hcr hr44 hzr hcell
      simp only [hm] at hnx hcx hx44 hzn hcell
      obtain ⟨nr2, hnr2⟩ : ∃ n, nr + 2 = n := ⟨_, rfl⟩
      obtain ⟨m2, hm2⟩ : ∃ n, m + 2 = n := ⟨_, rfl⟩
      have HNR := hide1 hnr
      have HM := hide1 hm
      have HNR2 := hide1 hnr2
      have HM2 := hide1 hm2
      have HRT := hide1 hrt
      have HNX := hide1 hnx
      have hzr2 : nr2 ≤ 8796093022207 := by omega
      have hzm2 : m2 ≤ 17592186044410 := by omega
      have k0 : ∀ w', Kept W3 w' → w'.cell? ⟨ag, ao + i * 2, none⟩ = some (.slice ar nr cr) := fun w' hk' => grown_cell hk' (hcell 0 _ rfl)
      have k1 : ∀ w', Kept W3 w' → w'.cell? ⟨ag, ao + i * 2 + 1, none⟩ = some (.slice ax m cx) := fun w' hk' => grown_cell hk' (hcell 1 _ rfl)
      have gic : (i : Int) < (ca : Int) := by omega
      have HKR : Hid (Kept W3 wr) := HI.out.2.2
      have hcut6 : ∀ w', (Instr.sliceAt 38 (.slice ra n6 rc) none (some (.int .i64 0)) none).run Tryd.prog w' = .ok (.slice ra 0 rc) w' := fun w' => cut_run syE n6 (lo_at HI.out.1) (Nat.zero_le _) w'
      have hcut7 : ∀ w', (Instr.sliceAt 41 (.slice xa n7 xc) none (some (.int .i64 0)) none).run Tryd.prog w' = .ok (.slice xa 0 xc) w' := fun w' => cut_run inE n7 (lo_at HI.out.2.1) (Nat.zero_le _) w'
      have HL6 : Hid (LO syE wr.drew W3.heap.size (.slice ra 0 rc) []) := (lo_cut HI.out.1).keep (drew_kept wr)
      have HL7 : Hid (LO inE wr.drew W3.heap.size (.slice xa n7 xc) l7) := HI.out.2.1.keep (drew_kept wr)
      have HKD : Hid (Kept W3 wr.drew) := gtrans HKR.out (drew_kept wr)
      clear hx hcell hlen hrt hnx hnr hm hnr2 hm2 hn6 hn7
      go_upto_region 9 with fail
      refine Code.wp_mono (Q := fun e a' w' => e = .normal ∧ ∃ rg rc' : Nat, HsF (some ⟨ag, ao, none⟩) na ca b0 sb (.slice (some ⟨rg, 0, none⟩) nr2 rc') (.slice xa n7 xc) i a' ∧ Hid (LO syE w' W3.heap.size (.slice (some ⟨rg, 0, none⟩) nr2 rc') (row ++ twoS) ∧ LO inE w' W3.heap.size (.slice xa n7 xc) l7 ∧ Kept W3 w')) ?_ ?_
      rotate_left
      · refine wp_region_held_drew (S := fun X => Kept W3 X) (by kernel_rfl) HKD.out (fun hHeld => ?_)
        refine wpAnyH_take (i := 0) (v := .slice ra n6 rc) rfl (by kernel_rfl) (by kernel_rfl) (by kernel_rfl) (fun _ _ _ h => nomatch h.1) (Or.inl ⟨by rfl, fun w' hSw => ?_⟩) (by with_reducible assumption) ?_
        · skip
          clear hSw
          go_simp
        try simp only [Act.put, List.getElem_toArray, List.getElem_cons_succ, List.getElem_cons_zero, List.setIfInBounds_toArray, List.set_cons_zero, List.set_cons_succ]
        refine wpAnyH_take (i := 1) (v := .slice ra 0 rc) rfl (by kernel_rfl) (by kernel_rfl) (by kernel_rfl) (fun _ _ _ h => nomatch h.1) (Or.inl ⟨by rfl, fun w' hSw => ?_⟩) (by with_reducible assumption) ?_
        · skip
          clear hSw
          go_simp
        try simp only [Act.put, List.getElem_toArray, List.getElem_cons_succ, List.getElem_cons_zero, List.setIfInBounds_toArray, List.set_cons_zero, List.set_cons_succ]
        refine wpAnyH_take (i := 2) (v := .slice (some ⟨ag, ao, none⟩) na ca) rfl (by kernel_rfl) (by kernel_rfl) (by kernel_rfl) (fun _ _ _ h => nomatch h.1) (Or.inl ⟨by rfl, fun w' hSw => ?_⟩) (by with_reducible assumption) ?_
        · skip
          clear hSw
          go_simp
        try simp only [Act.put, List.getElem_toArray, List.getElem_cons_succ, List.getElem_cons_zero, List.setIfInBounds_toArray, List.set_cons_zero, List.set_cons_succ]
        refine wpAnyH_take (i := 3) (v := .int .i64 (i : Int)) rfl (by kernel_rfl) (by kernel_rfl) (by kernel_rfl) (fun _ _ _ h => nomatch h.1) (Or.inl ⟨by rfl, fun w' hSw => ?_⟩) (by with_reducible assumption) ?_
        · skip
          clear hSw
          go_simp
        try simp only [Act.put, List.getElem_toArray, List.getElem_cons_succ, List.getElem_cons_zero, List.setIfInBounds_toArray, List.set_cons_zero, List.set_cons_succ]
        refine wpAnyH_take (i := 4) (v := .pointer (some ⟨ag, ao + i * 2, none⟩)) rfl (by kernel_rfl) (by kernel_rfl) (by kernel_rfl) (fun _ _ _ h => nomatch h.1) (Or.inl ⟨by rfl, fun w' hSw => ?_⟩) (by with_reducible assumption) ?_
        · skip
          clear hSw
          go_simp
        try simp only [Act.put, List.getElem_toArray, List.getElem_cons_succ, List.getElem_cons_zero, List.setIfInBounds_toArray, List.set_cons_zero, List.set_cons_succ]
        refine wpAnyH_take (i := 5) (v := .pointer (some ⟨ag, ao + i * 2, none⟩)) rfl (by kernel_rfl) (by kernel_rfl) (by kernel_rfl) (fun _ _ _ h => nomatch h.1) (Or.inl ⟨by rfl, fun w' hSw => ?_⟩) (by with_reducible assumption) ?_
        · skip
          clear hSw
          go_simp
        try simp only [Act.put, List.getElem_toArray, List.getElem_cons_succ, List.getElem_cons_zero, List.setIfInBounds_toArray, List.set_cons_zero, List.set_cons_succ]
        refine wpAnyH_take (i := 6) (v := .slice ar nr cr) rfl (by kernel_rfl) (by kernel_rfl) (by kernel_rfl) (fun _ _ _ h => nomatch h.1) (Or.inl ⟨by rfl, fun w' hSw => ?_⟩) (by with_reducible assumption) ?_
        · have t0 := k0 w' hSw
          clear hSw
          go_simp
        try simp only [Act.put, List.getElem_toArray, List.getElem_cons_succ, List.getElem_cons_zero, List.setIfInBounds_toArray, List.set_cons_zero, List.set_cons_succ]
        refine wpAnyH_take (i := 8) (v := .agg #[.int .i64 91, .int .i64 0]) rfl (by kernel_rfl) (by kernel_rfl) (by kernel_rfl) (fun _ _ _ h => nomatch h.1) (Or.inl ⟨by rfl, fun w' hSw => ?_⟩) (by with_reducible assumption) ?_
        · skip
          clear hSw
          go_simp
        try simp only [Act.put, List.getElem_toArray, List.getElem_cons_succ, List.getElem_cons_zero, List.setIfInBounds_toArray, List.set_cons_zero, List.set_cons_succ]
        refine wpAnyH_take (i := 9) (v := .agg #[.int .i64 92, .int .i64 0]) rfl (by kernel_rfl) (by kernel_rfl) (by kernel_rfl) (fun _ _ _ h => nomatch h.1) (Or.inl ⟨by rfl, fun w' hSw => ?_⟩) (by with_reducible assumption) ?_
        · skip
          clear hSw
          go_simp
        try simp only [Act.put, List.getElem_toArray, List.getElem_cons_succ, List.getElem_cons_zero, List.setIfInBounds_toArray, List.set_cons_zero, List.set_cons_succ]
        refine wpAnyH_ready (rs := [7, 10]) (by kernel_rfl) (by simp) ?_
        refine AllReadyH.cons (i := 7) rfl (fun K hK => ?_) (AllReadyH.cons (i := 10) rfl (fun K hK => ?_) AllReadyH.nil)
        · refine step_many (E := syE) rfl _ _ rfl W3.heap.size (.slice ra 0 rc) [] row 0 nr nr rfl HNR.out (Nat.zero_add nr) (by rfl) HL6.out ar cr (by rfl) (src_sl (E := syE) (HRT.out.keep HKD.out)) (by show nr * 16 ≤ 140737488355328; omega) (by unfold maxLen; omega) HKD.out.size ?_
          intro a8 c8 w8 ho8 hg8 _
          have HO8 := hide1 ho8
          have HK8 : Hid (Kept W3 w8) := kept_loH HKD.out HL6.out hg8
          have HN8 := hide1 (lo_othH HL7.out HL6.out (by decide) hg8)
          clear ho8 hg8
          refine hK.out _ _ HK8.out (fun hHeld2 => ?_)
          clear hK K hHeld
          have hHeld := hHeld2
          clear hHeld2
          try simp only [Act.put, List.getElem_toArray, List.getElem_cons_succ, List.getElem_cons_zero, List.setIfInBounds_toArray, List.set_cons_zero, List.set_cons_succ]
          refine wpAnyH_ready (rs := [10]) (by kernel_rfl) (by simp) ?_
          refine AllReadyH.cons (i := 10) rfl (fun K hK => ?_) AllReadyH.nil
          go_simp
          obtain ⟨w9, hw9⟩ : ∃ w9, w8.alloc (.cells #[.int .i64 91, .int .i64 0, .int .i64 92, .int .i64 0] 58) = w9 := ⟨_, rfl⟩
          have HK9 : Hid (Kept w8 w9) := by rw [← hw9]; exact (Kept.refl w8).alloc _ _
          have HBX : Hid (w9.heap[w8.heap.size]? = some (.cells #[.int .i64 91, .int .i64 0, .int .i64 92, .int .i64 0] 58 (0, 0))) := by rw [← hw9]; exact heap_alloc_new w8 _
          have HKK := hide1 (gtrans HK8.out HK9.out)
          rw [hw9]
          clear hw9
          refine hK.out _ _ HKK.out (fun hHeld2 => ?_)
          clear hK K hHeld
          have hHeld := hHeld2
          clear hHeld2
          try simp only [Act.put, List.getElem_toArray, List.getElem_cons_succ, List.getElem_cons_zero, List.setIfInBounds_toArray, List.set_cons_zero, List.set_cons_succ]
          refine wpAnyH_ready (rs := [11]) (by kernel_rfl) (by simp) ?_
          refine AllReadyH.cons (i := 11) rfl (fun K hK => ?_) AllReadyH.nil
          refine step_many (E := syE) rfl _ _ rfl W3.heap.size (.slice a8 nr c8) row twoS nr 2 nr2 HNR.out rfl HNR2.out (by rfl) (HO8.out.keep HK9.out) (some ⟨w8.heap.size, 0, none⟩) 2 (by rfl) (src_two HBX.out) (by show nr2 * 16 ≤ 140737488355328; omega) (by unfold maxLen; omega) HKK.out.size ?_
          intro a10 c10 w10 ho10 hg10 _
          obtain ⟨rg, rfl⟩ := lo_someH ho10 (by intro e; have := congrArg List.length e; rw [List.length_append] at this; exact absurd this (by show ¬ row.length + 2 = 0; omega))
          have HO10 := hide1 ho10
          have HK10 : Hid (Kept W3 w10) := kept_loH HKK.out ((HO8.out.keep HK9.out)) hg10
          have HN10 := hide1 (lo_othH (HN8.out.keep HK9.out) ((HO8.out.keep HK9.out)) (by decide) hg10)
          clear ho10 hg10
          refine hK.out _ _ HK10.out (fun hHeld2 => ?_)
          clear hK K hHeld
          have hHeld := hHeld2
          clear hHeld2
          try simp only [Act.put, List.getElem_toArray, List.getElem_cons_succ, List.getElem_cons_zero, List.setIfInBounds_toArray, List.set_cons_zero, List.set_cons_succ]
          refine wpAnyH_take (i := 12) (v := .slice (some ⟨rg, 0, none⟩) nr2 c10) rfl (by kernel_rfl) (by kernel_rfl) (by kernel_rfl) (fun _ _ _ h => nomatch h.1) (Or.inl ⟨by rfl, fun w' hSw => ?_⟩) (by with_reducible assumption) ?_
          · skip
            clear hSw
            go_simp
          try simp only [Act.put, List.getElem_toArray, List.getElem_cons_succ, List.getElem_cons_zero, List.setIfInBounds_toArray, List.set_cons_zero, List.set_cons_succ]
          refine wpAnyH_done (by kernel_rfl) ?_ _
          exact ⟨rfl, rg, c10, hsF_of _ (by kernel_rfl), ⟨HO10.out, HN10.out, HK10.out⟩⟩
        · go_simp
          obtain ⟨w9, hw9⟩ : ∃ w9, (wr.alloc (.cells #[.int .i64 91, .int .i64 0, .int .i64 92, .int .i64 0] 58)).drew = w9 := ⟨_, rfl⟩
          have HK9 : Hid (Kept wr.drew w9) := by rw [← hw9]; exact ((Kept.refl wr).alloc _ _)
          have HBX : Hid (w9.heap[wr.heap.size]? = some (.cells #[.int .i64 91, .int .i64 0, .int .i64 92, .int .i64 0] 58 (0, 0))) := by rw [← hw9]; exact heap_alloc_new wr _
          have HBL : Hid (wr.heap.size < w9.heap.size) := by rw [← hw9]; exact alloc_ltH wr _
          have HKK := hide1 (gtrans HKD.out HK9.out)
          rw [hw9]
          clear hw9
          refine hK.out _ _ HKK.out (fun hHeld2 => ?_)
          clear hK K hHeld
          have hHeld := hHeld2
          clear hHeld2
          try simp only [Act.put, List.getElem_toArray, List.getElem_cons_succ, List.getElem_cons_zero, List.setIfInBounds_toArray, List.set_cons_zero, List.set_cons_succ]
          refine wpAnyH_ready (rs := [7]) (by kernel_rfl) (by simp) ?_
          refine AllReadyH.cons (i := 7) rfl (fun K hK => ?_) AllReadyH.nil
          refine step_many (E := syE) rfl _ _ rfl W3.heap.size (.slice ra 0 rc) [] row 0 nr nr rfl HNR.out (Nat.zero_add nr) (by rfl) (HL6.out.keep HK9.out) ar cr (by rfl) ((src_sl (E := syE) (HRT.out.keep HKD.out)).keep HK9.out) (by show nr * 16 ≤ 140737488355328; omega) (by unfold maxLen; omega) HKK.out.size ?_
          intro a8 c8 w8 ho8 hg8 _
          have HO8 := hide1 ho8
          have HK8 : Hid (Kept W3 w8) := kept_loH HKK.out (HL6.out.keep HK9.out) hg8
          have HN8 := hide1 (lo_othH (HL7.out.keep HK9.out) (HL6.out.keep HK9.out) (by decide) hg8)
          have HBY : Hid (w8.heap[wr.heap.size]? = some (.cells #[.int .i64 91, .int .i64 0, .int .i64 92, .int .i64 0] 58 (0, 0))) := (hg8.block wr.heap.size HBL.out (fun e => by have := (LO.lt' HL6.out _ e.symm).2; exact absurd this (Nat.lt_irrefl _))).trans HBX.out
          clear ho8 hg8
          refine hK.out _ _ HK8.out (fun hHeld2 => ?_)
          clear hK K hHeld
          have hHeld := hHeld2
          clear hHeld2
          try simp only [Act.put, List.getElem_toArray, List.getElem_cons_succ, List.getElem_cons_zero, List.setIfInBounds_toArray, List.set_cons_zero, List.set_cons_succ]
          refine wpAnyH_ready (rs := [11]) (by kernel_rfl) (by simp) ?_
          refine AllReadyH.cons (i := 11) rfl (fun K hK => ?_) AllReadyH.nil
          refine step_many (E := syE) rfl _ _ rfl W3.heap.size (.slice a8 nr c8) row twoS nr 2 nr2 HNR.out rfl HNR2.out (by rfl) HO8.out (some ⟨wr.heap.size, 0, none⟩) 2 (by rfl) (src_two HBY.out) (by show nr2 * 16 ≤ 140737488355328; omega) (by unfold maxLen; omega) HK8.out.size ?_
          intro a10 c10 w10 ho10 hg10 _
          obtain ⟨rg, rfl⟩ := lo_someH ho10 (by intro e; have := congrArg List.length e; rw [List.length_append] at this; exact absurd this (by show ¬ row.length + 2 = 0; omega))
          have HO10 := hide1 ho10
          have HK10 : Hid (Kept W3 w10) := kept_loH HK8.out (HO8.out) hg10
          have HN10 := hide1 (lo_othH (HN8.out) (HO8.out) (by decide) hg10)
          clear ho10 hg10
          refine hK.out _ _ HK10.out (fun hHeld2 => ?_)
          clear hK K hHeld
          have hHeld := hHeld2
          clear hHeld2
          try simp only [Act.put, List.getElem_toArray, List.getElem_cons_succ, List.getElem_cons_zero, List.setIfInBounds_toArray, List.set_cons_zero, List.set_cons_succ]
          refine wpAnyH_take (i := 12) (v := .slice (some ⟨rg, 0, none⟩) nr2 c10) rfl (by kernel_rfl) (by kernel_rfl) (by kernel_rfl) (fun _ _ _ h => nomatch h.1) (Or.inl ⟨by rfl, fun w' hSw => ?_⟩) (by with_reducible assumption) ?_
          · skip
            clear hSw
            go_simp
          try simp only [Act.put, List.getElem_toArray, List.getElem_cons_succ, List.getElem_cons_zero, List.setIfInBounds_toArray, List.set_cons_zero, List.set_cons_succ]
          refine wpAnyH_done (by kernel_rfl) ?_ _
          exact ⟨rfl, rg, c10, hsF_of _ (by kernel_rfl), ⟨HO10.out, HN10.out, HK10.out⟩⟩
      rintro e a' w4 ⟨rfl, rg, rc', ⟨T4, rfl⟩, HI4⟩
      have hcut8 : ∀ w', (Instr.sliceAt 41 (.slice xa n7 xc) none (some (.int .i64 0)) none).run Tryd.prog w' = .ok (.slice xa 0 xc) w' := hcut7
      have HL8 : Hid (LO inE w4.drew W3.heap.size (.slice xa 0 xc) []) := (lo_cut HI4.out.2.1).keep (drew_kept w4)
      have HL9 : Hid (LO syE w4.drew W3.heap.size (.slice (some ⟨rg, 0, none⟩) nr2 rc') (row ++ twoS)) := HI4.out.1.keep (drew_kept w4)
      have HKD4 : Hid (Kept W3 w4.drew) := gtrans HI4.out.2.2 (drew_kept w4)
      clear hcut6 hcut7 HL6 HL7 HKD HKR
      go_upto_region 10 with fail
      refine Code.wp_mono (Q := fun e a' w' => e = .normal ∧ ∃ xg xc' : Nat, HsF (some ⟨ag, ao, none⟩) na ca b0 sb (.slice (some ⟨rg, 0, none⟩) nr2 rc') (.slice (some ⟨xg, 0, none⟩) m2 xc') i a' ∧ Hid (LO syE w' W3.heap.size (.slice (some ⟨rg, 0, none⟩) nr2 rc') (row ++ twoS) ∧ LO inE w' W3.heap.size (.slice (some ⟨xg, 0, none⟩) m2 xc') (next ++ twoI) ∧ Kept W3 w')) ?_ ?_
      rotate_left
      · refine wp_region_held_drew (S := fun X => Kept W3 X) (by kernel_rfl) HKD4.out (fun hHeld => ?_)
        refine wpAnyH_take (i := 0) (v := .slice xa n7 xc) rfl (by kernel_rfl) (by kernel_rfl) (by kernel_rfl) (fun _ _ _ h => nomatch h.1) (Or.inl ⟨by rfl, fun w' hSw => ?_⟩) (by with_reducible assumption) ?_
        · skip
          clear hSw
          go_simp
        try simp only [Act.put, List.getElem_toArray, List.getElem_cons_succ, List.getElem_cons_zero, List.setIfInBounds_toArray, List.set_cons_zero, List.set_cons_succ]
        refine wpAnyH_take (i := 1) (v := .slice xa 0 xc) rfl (by kernel_rfl) (by kernel_rfl) (by kernel_rfl) (fun _ _ _ h => nomatch h.1) (Or.inl ⟨by rfl, fun w' hSw => ?_⟩) (by with_reducible assumption) ?_
        · skip
          clear hSw
          go_simp
        try simp only [Act.put, List.getElem_toArray, List.getElem_cons_succ, List.getElem_cons_zero, List.setIfInBounds_toArray, List.set_cons_zero, List.set_cons_succ]
        refine wpAnyH_take (i := 2) (v := .slice (some ⟨ag, ao, none⟩) na ca) rfl (by kernel_rfl) (by kernel_rfl) (by kernel_rfl) (fun _ _ _ h => nomatch h.1) (Or.inl ⟨by rfl, fun w' hSw => ?_⟩) (by with_reducible assumption) ?_
        · skip
          clear hSw
          go_simp
        try simp only [Act.put, List.getElem_toArray, List.getElem_cons_succ, List.getElem_cons_zero, List.setIfInBounds_toArray, List.set_cons_zero, List.set_cons_succ]
        refine wpAnyH_take (i := 3) (v := .int .i64 (i : Int)) rfl (by kernel_rfl) (by kernel_rfl) (by kernel_rfl) (fun _ _ _ h => nomatch h.1) (Or.inl ⟨by rfl, fun w' hSw => ?_⟩) (by with_reducible assumption) ?_
        · skip
          clear hSw
          go_simp
        try simp only [Act.put, List.getElem_toArray, List.getElem_cons_succ, List.getElem_cons_zero, List.setIfInBounds_toArray, List.set_cons_zero, List.set_cons_succ]
        refine wpAnyH_take (i := 4) (v := .pointer (some ⟨ag, ao + i * 2, none⟩)) rfl (by kernel_rfl) (by kernel_rfl) (by kernel_rfl) (fun _ _ _ h => nomatch h.1) (Or.inl ⟨by rfl, fun w' hSw => ?_⟩) (by with_reducible assumption) ?_
        · skip
          clear hSw
          go_simp
        try simp only [Act.put, List.getElem_toArray, List.getElem_cons_succ, List.getElem_cons_zero, List.setIfInBounds_toArray, List.set_cons_zero, List.set_cons_succ]
        refine wpAnyH_take (i := 5) (v := .pointer (some ⟨ag, ao + i * 2 + 1, none⟩)) rfl (by kernel_rfl) (by kernel_rfl) (by kernel_rfl) (fun _ _ _ h => nomatch h.1) (Or.inl ⟨by rfl, fun w' hSw => ?_⟩) (by with_reducible assumption) ?_
        · skip
          clear hSw
          go_simp
        try simp only [Act.put, List.getElem_toArray, List.getElem_cons_succ, List.getElem_cons_zero, List.setIfInBounds_toArray, List.set_cons_zero, List.set_cons_succ]
        refine wpAnyH_take (i := 6) (v := .slice ax m cx) rfl (by kernel_rfl) (by kernel_rfl) (by kernel_rfl) (fun _ _ _ h => nomatch h.1) (Or.inl ⟨by rfl, fun w' hSw => ?_⟩) (by with_reducible assumption) ?_
        · have t0 := k1 w' hSw
          clear hSw
          go_simp
        try simp only [Act.put, List.getElem_toArray, List.getElem_cons_succ, List.getElem_cons_zero, List.setIfInBounds_toArray, List.set_cons_zero, List.set_cons_succ]
        refine wpAnyH_ready (rs := [7, 8]) (by kernel_rfl) (by simp) ?_
        refine AllReadyH.cons (i := 7) rfl (fun K hK => ?_) (AllReadyH.cons (i := 8) rfl (fun K hK => ?_) AllReadyH.nil)
        · refine step_many (E := inE) rfl _ _ rfl W3.heap.size (.slice xa 0 xc) [] next 0 m m rfl HM.out (Nat.zero_add m) (by rfl) HL8.out ax cx (by rfl) (src_sl (E := inE) (HNX.out.keep HKD4.out)) (by show m * 8 ≤ 140737488355328; omega) (by unfold maxLen; omega) HKD4.out.size ?_
          intro a8 c8 w8 ho8 hg8 _
          have HO8 := hide1 ho8
          have HK8 : Hid (Kept W3 w8) := kept_loH HKD4.out HL8.out hg8
          have HN8 := hide1 (lo_othH HL9.out HL8.out (by decide) hg8)
          clear ho8 hg8
          refine hK.out _ _ HK8.out (fun hHeld2 => ?_)
          clear hK K hHeld
          have hHeld := hHeld2
          clear hHeld2
          try simp only [Act.put, List.getElem_toArray, List.getElem_cons_succ, List.getElem_cons_zero, List.setIfInBounds_toArray, List.set_cons_zero, List.set_cons_succ]
          refine wpAnyH_ready (rs := [8]) (by kernel_rfl) (by simp) ?_
          refine AllReadyH.cons (i := 8) rfl (fun K hK => ?_) AllReadyH.nil
          go_simp
          obtain ⟨w9, hw9⟩ : ∃ w9, w8.alloc (.cells #[.int .i64 (-91), .int .i64 (-92)] 3) = w9 := ⟨_, rfl⟩
          have HK9 : Hid (Kept w8 w9) := by rw [← hw9]; exact (Kept.refl w8).alloc _ _
          have HBX : Hid (w9.heap[w8.heap.size]? = some (.cells #[.int .i64 (-91), .int .i64 (-92)] 3 (0, 0))) := by rw [← hw9]; exact heap_alloc_new w8 _
          have HKK := hide1 (gtrans HK8.out HK9.out)
          rw [hw9]
          clear hw9
          refine hK.out _ _ HKK.out (fun hHeld2 => ?_)
          clear hK K hHeld
          have hHeld := hHeld2
          clear hHeld2
          try simp only [Act.put, List.getElem_toArray, List.getElem_cons_succ, List.getElem_cons_zero, List.setIfInBounds_toArray, List.set_cons_zero, List.set_cons_succ]
          refine wpAnyH_ready (rs := [9]) (by kernel_rfl) (by simp) ?_
          refine AllReadyH.cons (i := 9) rfl (fun K hK => ?_) AllReadyH.nil
          refine step_many (E := inE) rfl _ _ rfl W3.heap.size (.slice a8 m c8) next twoI m 2 m2 HM.out rfl HM2.out (by rfl) (HO8.out.keep HK9.out) (some ⟨w8.heap.size, 0, none⟩) 2 (by rfl) (src_twoI HBX.out) (by show m2 * 8 ≤ 140737488355328; omega) (by unfold maxLen; omega) HKK.out.size ?_
          intro a10 c10 w10 ho10 hg10 _
          obtain ⟨rg, rfl⟩ := lo_someH ho10 (by intro e; have := congrArg List.length e; rw [List.length_append] at this; exact absurd this (by show ¬ next.length + 2 = 0; omega))
          have HO10 := hide1 ho10
          have HK10 : Hid (Kept W3 w10) := kept_loH HKK.out ((HO8.out.keep HK9.out)) hg10
          have HN10 := hide1 (lo_othH (HN8.out.keep HK9.out) ((HO8.out.keep HK9.out)) (by decide) hg10)
          clear ho10 hg10
          refine hK.out _ _ HK10.out (fun hHeld2 => ?_)
          clear hK K hHeld
          have hHeld := hHeld2
          clear hHeld2
          try simp only [Act.put, List.getElem_toArray, List.getElem_cons_succ, List.getElem_cons_zero, List.setIfInBounds_toArray, List.set_cons_zero, List.set_cons_succ]
          refine wpAnyH_take (i := 10) (v := .slice (some ⟨rg, 0, none⟩) m2 c10) rfl (by kernel_rfl) (by kernel_rfl) (by kernel_rfl) (fun _ _ _ h => nomatch h.1) (Or.inl ⟨by rfl, fun w' hSw => ?_⟩) (by with_reducible assumption) ?_
          · skip
            clear hSw
            go_simp
          try simp only [Act.put, List.getElem_toArray, List.getElem_cons_succ, List.getElem_cons_zero, List.setIfInBounds_toArray, List.set_cons_zero, List.set_cons_succ]
          refine wpAnyH_done (by kernel_rfl) ?_ _
          exact ⟨rfl, rg, c10, hsF_of _ (by kernel_rfl), ⟨HN10.out, HO10.out, HK10.out⟩⟩
        · go_simp
          obtain ⟨w9, hw9⟩ : ∃ w9, (w4.alloc (.cells #[.int .i64 (-91), .int .i64 (-92)] 3)).drew = w9 := ⟨_, rfl⟩
          have HK9 : Hid (Kept w4.drew w9) := by rw [← hw9]; exact ((Kept.refl w4).alloc _ _)
          have HBX : Hid (w9.heap[w4.heap.size]? = some (.cells #[.int .i64 (-91), .int .i64 (-92)] 3 (0, 0))) := by rw [← hw9]; exact heap_alloc_new w4 _
          have HBL : Hid (w4.heap.size < w9.heap.size) := by rw [← hw9]; exact alloc_ltH w4 _
          have HKK := hide1 (gtrans HKD4.out HK9.out)
          rw [hw9]
          clear hw9
          refine hK.out _ _ HKK.out (fun hHeld2 => ?_)
          clear hK K hHeld
          have hHeld := hHeld2
          clear hHeld2
          try simp only [Act.put, List.getElem_toArray, List.getElem_cons_succ, List.getElem_cons_zero, List.setIfInBounds_toArray, List.set_cons_zero, List.set_cons_succ]
          refine wpAnyH_ready (rs := [7]) (by kernel_rfl) (by simp) ?_
          refine AllReadyH.cons (i := 7) rfl (fun K hK => ?_) AllReadyH.nil
          refine step_many (E := inE) rfl _ _ rfl W3.heap.size (.slice xa 0 xc) [] next 0 m m rfl HM.out (Nat.zero_add m) (by rfl) (HL8.out.keep HK9.out) ax cx (by rfl) ((src_sl (E := inE) (HNX.out.keep HKD4.out)).keep HK9.out) (by show m * 8 ≤ 140737488355328; omega) (by unfold maxLen; omega) HKK.out.size ?_
          intro a8 c8 w8 ho8 hg8 _
          have HO8 := hide1 ho8
          have HK8 : Hid (Kept W3 w8) := kept_loH HKK.out (HL8.out.keep HK9.out) hg8
          have HN8 := hide1 (lo_othH (HL9.out.keep HK9.out) (HL8.out.keep HK9.out) (by decide) hg8)
          have HBY : Hid (w8.heap[w4.heap.size]? = some (.cells #[.int .i64 (-91), .int .i64 (-92)] 3 (0, 0))) := (hg8.block w4.heap.size HBL.out (fun e => by have := (LO.lt' HL8.out _ e.symm).2; exact absurd this (Nat.lt_irrefl _))).trans HBX.out
          clear ho8 hg8
          refine hK.out _ _ HK8.out (fun hHeld2 => ?_)
          clear hK K hHeld
          have hHeld := hHeld2
          clear hHeld2
          try simp only [Act.put, List.getElem_toArray, List.getElem_cons_succ, List.getElem_cons_zero, List.setIfInBounds_toArray, List.set_cons_zero, List.set_cons_succ]
          refine wpAnyH_ready (rs := [9]) (by kernel_rfl) (by simp) ?_
          refine AllReadyH.cons (i := 9) rfl (fun K hK => ?_) AllReadyH.nil
          refine step_many (E := inE) rfl _ _ rfl W3.heap.size (.slice a8 m c8) next twoI m 2 m2 HM.out rfl HM2.out (by rfl) HO8.out (some ⟨w4.heap.size, 0, none⟩) 2 (by rfl) (src_twoI HBY.out) (by show m2 * 8 ≤ 140737488355328; omega) (by unfold maxLen; omega) HK8.out.size ?_
          intro a10 c10 w10 ho10 hg10 _
          obtain ⟨rg, rfl⟩ := lo_someH ho10 (by intro e; have := congrArg List.length e; rw [List.length_append] at this; exact absurd this (by show ¬ next.length + 2 = 0; omega))
          have HO10 := hide1 ho10
          have HK10 : Hid (Kept W3 w10) := kept_loH HK8.out (HO8.out) hg10
          have HN10 := hide1 (lo_othH (HN8.out) (HO8.out) (by decide) hg10)
          clear ho10 hg10
          refine hK.out _ _ HK10.out (fun hHeld2 => ?_)
          clear hK K hHeld
          have hHeld := hHeld2
          clear hHeld2
          try simp only [Act.put, List.getElem_toArray, List.getElem_cons_succ, List.getElem_cons_zero, List.setIfInBounds_toArray, List.set_cons_zero, List.set_cons_succ]
          refine wpAnyH_take (i := 10) (v := .slice (some ⟨rg, 0, none⟩) m2 c10) rfl (by kernel_rfl) (by kernel_rfl) (by kernel_rfl) (fun _ _ _ h => nomatch h.1) (Or.inl ⟨by rfl, fun w' hSw => ?_⟩) (by with_reducible assumption) ?_
          · skip
            clear hSw
            go_simp
          try simp only [Act.put, List.getElem_toArray, List.getElem_cons_succ, List.getElem_cons_zero, List.setIfInBounds_toArray, List.set_cons_zero, List.set_cons_succ]
          refine wpAnyH_done (by kernel_rfl) ?_ _
          exact ⟨rfl, rg, c10, hsF_of _ (by kernel_rfl), ⟨HN10.out, HO10.out, HK10.out⟩⟩
      rintro e a' w5 ⟨rfl, xg, xc', ⟨T5, rfl⟩, HI5⟩
      clear hcut8 HL8 HL9 HKD4 HI4
      have HK5 : Hid (Kept W3 w5) := HI5.out.2.2
      have c0 := k0 w5 HK5.out
      have c1 := k1 w5 HK5.out
      have hc5 : nr2 ≤ rc' := (lo_capH HI5.out.1).2
      have hc6 : m2 ≤ xc' := (lo_capH HI5.out.2.1).2
      have hcr5 : ∀ w', (Instr.sliceAt 38 (.slice (some ⟨rg, 0, none⟩) nr2 rc') none (some (.int .i64 (nr : Int))) none).run Tryd.prog w' = .ok (.slice (some ⟨rg, 0, none⟩) nr rc') w' := fun w' => cut_run syE nr2 (.inr ⟨_, _, rfl⟩) (by have := HNR2.out; omega) w'
      have hcx5 : ∀ w', (Instr.sliceAt 41 (.slice (some ⟨xg, 0, none⟩) m2 xc') none (some (.int .i64 (m : Int))) none).run Tryd.prog w' = .ok (.slice (some ⟨xg, 0, none⟩) m xc') w' := fun w' => cut_run inE m2 (.inr ⟨_, _, rfl⟩) (by have := HM2.out; omega) w'
      have HR5 : Hid (RightAt w5 (.slice (some ⟨rg, 0, none⟩) nr rc') row) := lo_sl HI5.out.1 HNR.out (by omega)
      have HX5 : Hid (IntsR w5 (.slice (some ⟨xg, 0, none⟩) m xc') next) := lo_sl HI5.out.2.1 HM.out (by omega)
      go_upto_region 13 with fail
      clear c0 c1
      refine Code.wp_mono (Q := fun e a' w' => e = .normal ∧ ∃ (v11 : Value) (fb : Nat) (x : Int × Int) (l : List Int), HsH (some ⟨ag, ao, none⟩) na ca b0 sb (.slice (some ⟨rg, 0, none⟩) nr2 rc') (.slice (some ⟨xg, 0, none⟩) m2 xc') i nr m v11 fb a' ∧ Hid (HdA lex ps nn nl st row next x l ∧ IntsO w' w5.heap.size v11 l ∧ FlBox w' fb x.1 x.2 ∧ Kept w5 w')) ?_ ?_
      rotate_left
      · refine wp_region_held_drew (S := fun X => Kept w5 X) (by kernel_rfl) (drew_kept _) (fun hHeld => ?_)
        refine wpAnyH_take (i := 0) (v := .agg #[.slice (some ⟨g, 0, none⟩) nl (nl + 1), .slice (some ⟨gn, 0, none⟩) nn (nn + 1), .int .i64 st, .slice (some ⟨gq, 0, none⟩) np (np + 1)]) rfl (by kernel_rfl) (by kernel_rfl) (by kernel_rfl) (fun _ _ _ h => nomatch h.1) (Or.inl ⟨by rfl, fun w' hSw => ?_⟩) (by with_reducible assumption) ?_
        · obtain ⟨s0, s1, s2, s3⟩ := (HSB.out.keep (gtrans HK5.out hSw)).facts
          clear hSw
          go_simp
        try simp only [Act.put, List.getElem_toArray, List.getElem_cons_succ, List.getElem_cons_zero, List.setIfInBounds_toArray, List.set_cons_zero, List.set_cons_succ]
        refine wpAnyH_take (i := 1) (v := .slice (some ⟨rg, 0, none⟩) nr2 rc') rfl (by kernel_rfl) (by kernel_rfl) (by kernel_rfl) (fun _ _ _ h => nomatch h.1) (Or.inl ⟨by rfl, fun w' hSw => ?_⟩) (by with_reducible assumption) ?_
        · skip
          clear hSw
          go_simp
        try simp only [Act.put, List.getElem_toArray, List.getElem_cons_succ, List.getElem_cons_zero, List.setIfInBounds_toArray, List.set_cons_zero, List.set_cons_succ]
        refine wpAnyH_take (i := 2) (v := .int .i64 (nr : Int)) rfl (by kernel_rfl) (by kernel_rfl) (by kernel_rfl) (fun _ _ _ h => nomatch h.1) (Or.inl ⟨by rfl, fun w' hSw => ?_⟩) (by with_reducible assumption) ?_
        · skip
          clear hSw
          go_simp
        try simp only [Act.put, List.getElem_toArray, List.getElem_cons_succ, List.getElem_cons_zero, List.setIfInBounds_toArray, List.set_cons_zero, List.set_cons_succ]
        refine wpAnyH_take (i := 3) (v := .slice (some ⟨rg, 0, none⟩) nr rc') rfl (by kernel_rfl) (by kernel_rfl) (by kernel_rfl) (fun _ _ _ h => nomatch h.1) (Or.inl ⟨by rfl, fun w' hSw => ?_⟩) (by with_reducible assumption) ?_
        · skip
          clear hSw
          go_simp
        try simp only [Act.put, List.getElem_toArray, List.getElem_cons_succ, List.getElem_cons_zero, List.setIfInBounds_toArray, List.set_cons_zero, List.set_cons_succ]
        refine wpAnyH_take (i := 4) (v := .slice (some ⟨xg, 0, none⟩) m2 xc') rfl (by kernel_rfl) (by kernel_rfl) (by kernel_rfl) (fun _ _ _ h => nomatch h.1) (Or.inl ⟨by rfl, fun w' hSw => ?_⟩) (by with_reducible assumption) ?_
        · skip
          clear hSw
          go_simp
        try simp only [Act.put, List.getElem_toArray, List.getElem_cons_succ, List.getElem_cons_zero, List.setIfInBounds_toArray, List.set_cons_zero, List.set_cons_succ]
        refine wpAnyH_take (i := 5) (v := .int .i64 (m : Int)) rfl (by kernel_rfl) (by kernel_rfl) (by kernel_rfl) (fun _ _ _ h => nomatch h.1) (Or.inl ⟨by rfl, fun w' hSw => ?_⟩) (by with_reducible assumption) ?_
        · skip
          clear hSw
          go_simp
        try simp only [Act.put, List.getElem_toArray, List.getElem_cons_succ, List.getElem_cons_zero, List.setIfInBounds_toArray, List.set_cons_zero, List.set_cons_succ]
        refine wpAnyH_take (i := 6) (v := .slice (some ⟨xg, 0, none⟩) m xc') rfl (by kernel_rfl) (by kernel_rfl) (by kernel_rfl) (fun _ _ _ h => nomatch h.1) (Or.inl ⟨by rfl, fun w' hSw => ?_⟩) (by with_reducible assumption) ?_
        · skip
          clear hSw
          go_simp
        try simp only [Act.put, List.getElem_toArray, List.getElem_cons_succ, List.getElem_cons_zero, List.setIfInBounds_toArray, List.set_cons_zero, List.set_cons_succ]
        refine wpAnyH_ready (rs := [7, 11]) (by kernel_rfl) (by simp) ?_
        refine AllReadyH.cons (i := 7) rfl (fun K hK => ?_) (AllReadyH.cons (i := 11) rfl (fun K hK => ?_) AllReadyH.nil)
        · go_simp
          go_wp2_with (go_at_call 9; refine (HPRG.out _ _ _ nr rc' m xc' row next (gtrans HK5.out (drew_kept w5)) HNR.out HM.out (HR5.out.keep (drew_kept w5)) (HX5.out.keep (drew_kept w5))).mono ?_; rintro e w6 ⟨v11, ⟨xe, xq⟩, l, rfl, h1, h2, h3⟩; have HD := hide1 h1; have HO := hide1 h2; have HKc := hide1 h3; have HK6 : Hid (Kept w5 w6) := gtrans (drew_kept w5) h3; clear h1 h2 h3)
          refine hK.out _ _ HK6.out (fun hHeld2 => ?_)
          clear hK K hHeld
          have hHeld := hHeld2
          clear hHeld2
          try simp only [Act.put, List.getElem_toArray, List.getElem_cons_succ, List.getElem_cons_zero, List.setIfInBounds_toArray, List.set_cons_zero, List.set_cons_succ]
          refine wpAnyH_take (i := 8) (v := .tuple #[v11, .agg #[.int .i64 xe, .int .i64 xq, .string ⟨#[]⟩]]) rfl (by kernel_rfl) (by kernel_rfl) (by kernel_rfl) (fun _ _ _ h => nomatch h.1) (Or.inl ⟨by rfl, fun w' hSw => ?_⟩) (by with_reducible assumption) ?_
          · skip
            clear hSw
            go_simp
          try simp only [Act.put, List.getElem_toArray, List.getElem_cons_succ, List.getElem_cons_zero, List.setIfInBounds_toArray, List.set_cons_zero, List.set_cons_succ]
          refine wpAnyH_take (i := 9) (v := v11) rfl (by kernel_rfl) (by kernel_rfl) (by kernel_rfl) (fun _ _ _ h => nomatch h.1) (Or.inl ⟨by rfl, fun w' hSw => ?_⟩) (by with_reducible assumption) ?_
          · skip
            clear hSw
            go_simp
          try simp only [Act.put, List.getElem_toArray, List.getElem_cons_succ, List.getElem_cons_zero, List.setIfInBounds_toArray, List.set_cons_zero, List.set_cons_succ]
          refine wpAnyH_take (i := 10) (v := .agg #[.int .i64 xe, .int .i64 xq, .string ⟨#[]⟩]) rfl (by kernel_rfl) (by kernel_rfl) (by kernel_rfl) (fun _ _ _ h => nomatch h.1) (Or.inl ⟨by rfl, fun w' hSw => ?_⟩) (by with_reducible assumption) ?_
          · skip
            clear hSw
            go_simp
          try simp only [Act.put, List.getElem_toArray, List.getElem_cons_succ, List.getElem_cons_zero, List.setIfInBounds_toArray, List.set_cons_zero, List.set_cons_succ]
          refine wpAnyH_ready (rs := [11]) (by kernel_rfl) (by simp) ?_
          refine AllReadyH.cons (i := 11) rfl (fun K hK => ?_) AllReadyH.nil
          go_simp
          refine hK.out _ _ (gtrans HK6.out ((Kept.refl w6).alloc _ _)) (fun hHeld2 => ?_)
          clear hK K hHeld
          have hHeld := hHeld2
          clear hHeld2
          try simp only [Act.put, List.getElem_toArray, List.getElem_cons_succ, List.getElem_cons_zero, List.setIfInBounds_toArray, List.set_cons_zero, List.set_cons_succ]
          refine wpAnyH_take (i := 12) (v := v11) rfl (by kernel_rfl) (by kernel_rfl) (by kernel_rfl) (fun _ _ _ h => nomatch h.1) (Or.inl ⟨by rfl, fun w' hSw => ?_⟩) (by with_reducible assumption) ?_
          · skip
            clear hSw
            go_simp
          try simp only [Act.put, List.getElem_toArray, List.getElem_cons_succ, List.getElem_cons_zero, List.setIfInBounds_toArray, List.set_cons_zero, List.set_cons_succ]
          refine wpAnyH_ready (rs := [13]) (by kernel_rfl) (by simp) ?_
          refine AllReadyH.cons (i := 13) rfl (fun K hK => ?_) AllReadyH.nil
          go_simp
          have HKX : Hid (Kept w6 (w6.alloc (.cells #[.int .i64 xe, .int .i64 xq, .string ⟨#[]⟩] 44))) := (Kept.refl w6).alloc _ _
          refine hK.out _ _ (gtrans HK6.out HKX.out) (fun hHeld2 => ?_)
          clear hK K hHeld
          have hHeld := hHeld2
          clear hHeld2
          try simp only [Act.put, List.getElem_toArray, List.getElem_cons_succ, List.getElem_cons_zero, List.setIfInBounds_toArray, List.set_cons_zero, List.set_cons_succ]
          refine wpAnyH_done (by kernel_rfl) ?_ _
          exact ⟨rfl, v11, w6.heap.size, (xe, xq), l, hsH_of _ (by kernel_rfl), HD.out, intsO_low (HO.out.keep HKX.out) (Nat.le_refl _), (fl_new w6 xe xq).1, gtrans HK6.out HKX.out⟩
        · go_simp
          have HKZ : Hid (Kept w5 (w5.alloc (.cells #[.int .i64 0, .int .i64 0, .string ⟨#[]⟩] 44)).drew) := gtrans ((Kept.refl w5).alloc _ _) (drew_kept _)
          have HFZ : Hid (FlBox (w5.alloc (.cells #[.int .i64 0, .int .i64 0, .string ⟨#[]⟩] 44)).drew w5.heap.size 0 0) := (FlBox.new w5).keep (drew_kept _)
          refine hK.out _ _ HKZ.out (fun hHeld2 => ?_)
          clear hK K hHeld
          have hHeld := hHeld2
          clear hHeld2
          try simp only [Act.put, List.getElem_toArray, List.getElem_cons_succ, List.getElem_cons_zero, List.setIfInBounds_toArray, List.set_cons_zero, List.set_cons_succ]
          refine wpAnyH_ready (rs := [7]) (by kernel_rfl) (by simp) ?_
          refine AllReadyH.cons (i := 7) rfl (fun K hK => ?_) AllReadyH.nil
          go_simp
          go_wp2_with (go_at_call 9; refine (HPRG.out _ _ _ nr rc' m xc' row next (gtrans HK5.out HKZ.out) HNR.out HM.out (HR5.out.keep HKZ.out) (HX5.out.keep HKZ.out)).mono ?_; rintro e w6 ⟨v11, ⟨xe, xq⟩, l, rfl, h1, h2, h3⟩; have HD := hide1 h1; have HO := hide1 h2; have HKc := hide1 h3; have HK6 : Hid (Kept w5 w6) := gtrans HKZ.out h3; clear h1 h2 h3)
          refine hK.out _ _ HK6.out (fun hHeld2 => ?_)
          clear hK K hHeld
          have hHeld := hHeld2
          clear hHeld2
          try simp only [Act.put, List.getElem_toArray, List.getElem_cons_succ, List.getElem_cons_zero, List.setIfInBounds_toArray, List.set_cons_zero, List.set_cons_succ]
          refine wpAnyH_take (i := 8) (v := .tuple #[v11, .agg #[.int .i64 xe, .int .i64 xq, .string ⟨#[]⟩]]) rfl (by kernel_rfl) (by kernel_rfl) (by kernel_rfl) (fun _ _ _ h => nomatch h.1) (Or.inl ⟨by rfl, fun w' hSw => ?_⟩) (by with_reducible assumption) ?_
          · skip
            clear hSw
            go_simp
          try simp only [Act.put, List.getElem_toArray, List.getElem_cons_succ, List.getElem_cons_zero, List.setIfInBounds_toArray, List.set_cons_zero, List.set_cons_succ]
          refine wpAnyH_take (i := 9) (v := v11) rfl (by kernel_rfl) (by kernel_rfl) (by kernel_rfl) (fun _ _ _ h => nomatch h.1) (Or.inl ⟨by rfl, fun w' hSw => ?_⟩) (by with_reducible assumption) ?_
          · skip
            clear hSw
            go_simp
          try simp only [Act.put, List.getElem_toArray, List.getElem_cons_succ, List.getElem_cons_zero, List.setIfInBounds_toArray, List.set_cons_zero, List.set_cons_succ]
          refine wpAnyH_take (i := 10) (v := .agg #[.int .i64 xe, .int .i64 xq, .string ⟨#[]⟩]) rfl (by kernel_rfl) (by kernel_rfl) (by kernel_rfl) (fun _ _ _ h => nomatch h.1) (Or.inl ⟨by rfl, fun w' hSw => ?_⟩) (by with_reducible assumption) ?_
          · skip
            clear hSw
            go_simp
          try simp only [Act.put, List.getElem_toArray, List.getElem_cons_succ, List.getElem_cons_zero, List.setIfInBounds_toArray, List.set_cons_zero, List.set_cons_succ]
          refine wpAnyH_take (i := 12) (v := v11) rfl (by kernel_rfl) (by kernel_rfl) (by kernel_rfl) (fun _ _ _ h => nomatch h.1) (Or.inl ⟨by rfl, fun w' hSw => ?_⟩) (by with_reducible assumption) ?_
          · skip
            clear hSw
            go_simp
          try simp only [Act.put, List.getElem_toArray, List.getElem_cons_succ, List.getElem_cons_zero, List.setIfInBounds_toArray, List.set_cons_zero, List.set_cons_succ]
          refine wpAnyH_ready (rs := [13]) (by kernel_rfl) (by simp) ?_
          refine AllReadyH.cons (i := 13) rfl (fun K hK => ?_) AllReadyH.nil
          have HFA := hide1 (HFZ.out.keep HKc.out)
          obtain ⟨⟨x0, x1, x2⟩, z0, z1, z2⟩ := HFA.out.cells
          go_simp
          clear x0 x1 x2 z0 z1 z2
          have HFX := hide1 (HFA.out.fill xe xq)
          have HKX : Hid (Kept w5 (((w6.setCell ⟨w5.heap.size, 0, none⟩ (.int .i64 xe)).setCell ⟨w5.heap.size, 1, none⟩ (.int .i64 xq)).setCell ⟨w5.heap.size, 2, none⟩ (.string ⟨#[]⟩))) := keepB (keepB (keepB HK6.out (Nat.le_refl _)) (Nat.le_refl _)) (Nat.le_refl _)
          have HV3 : Hid (IntsO (((w6.setCell ⟨w5.heap.size, 0, none⟩ (.int .i64 xe)).setCell ⟨w5.heap.size, 1, none⟩ (.int .i64 xq)).setCell ⟨w5.heap.size, 2, none⟩ (.string ⟨#[]⟩)) (w5.alloc (.cells #[.int .i64 0, .int .i64 0, .string ⟨#[]⟩] 44)).drew.heap.size v11 l) := owns_same HO.out (fun d hd => by have h1 := (HO.out.lt d hd).1; have h2 : w5.heap.size < (w5.alloc (.cells #[.int .i64 0, .int .i64 0, .string ⟨#[]⟩] 44)).drew.heap.size := HFZ.out.lt; exact (heap_set_ne (by omega)).trans ((heap_set_ne (by omega)).trans (heap_set_ne (by omega))))
          refine hK.out _ _ HKX.out (fun hHeld2 => ?_)
          clear hK K hHeld
          have hHeld := hHeld2
          clear hHeld2
          try simp only [Act.put, List.getElem_toArray, List.getElem_cons_succ, List.getElem_cons_zero, List.setIfInBounds_toArray, List.set_cons_zero, List.set_cons_succ]
          refine wpAnyH_done (by kernel_rfl) ?_ _
          exact ⟨rfl, v11, w5.heap.size, (xe, xq), l, hsH_of _ (by kernel_rfl), HD.out, intsO_low HV3.out (Nat.le_of_lt HFZ.out.lt), HFX.out, HKX.out⟩
      rintro e a' w6 ⟨rfl, v11, fb, x, l, ⟨T6, rfl⟩, HI6⟩
      have HK6 : Hid (Kept w5 w6) := HI6.out.2.2.2
      obtain ⟨a1, c1, hv⟩ := HI6.out.2.1.form
      subst hv
      obtain ⟨n1, hn1⟩ : ∃ n, l.length = n := ⟨_, rfl⟩
      rw [hn1] at HI6
      try rw [hn1]
      have HN1 := hide1 hn1
      have HLE := hide1 HI6.out.1.len
      have HKW6 := hide1 (gtrans HK5.out HK6.out)
      have HV1 : Hid (IntsR w6 (.slice a1 n1 c1) l) := by
        have h := HI6.out.2.1.read (by have := HLE.out.1; omega)
        exact h
      clear hn1 hcr5
      obtain ⟨xe, xq⟩ := x
      have HDO : Hid (∀ w', Kept w6 w' → Calls Tryd.prog 16 #[.agg #[.slice al nl cl, .slice an nn cn, .int .i64 st, .slice ap np cp], .slice ar nr cr, .slice ax m cx] w' fun e w2 => ∃ (a2 : Option Addr) (c2 : Nat), e = .returned (.tuple #[.slice a2 n1 c2, .int .i64 xq, .int .i64 xe]) ∧ IntsR w2 (.slice a2 n1 c2) l ∧ Kept w' w2) := fun w' hk' => (HDOC.out w' ar ax nr cr m cx row next (gtrans HKW6.out hk') HNR.out HM.out (HRT.out.keep (gtrans HKW6.out hk')) (HNX.out.keep (gtrans HKW6.out hk'))).mono fun e w2 ⟨v, x', l', h1, h2, h3, h4⟩ => by
        obtain ⟨e1, e2⟩ := HI6.out.1.one h2
        subst e1 e2
        obtain ⟨a2, c2, rfl⟩ := h3.form
        rw [HN1.out] at h1 h3
        exact ⟨a2, c2, h1, h3.read (by have := HLE.out.1; omega), h4⟩
      have HB6 := hide1 (HBB.out.keep HKW6.out)
      have q0 : ∀ w', Kept w6 w' → w'.cell? ⟨ag, ao + i * 2, none⟩ = some (.slice ar nr cr) := fun w' hk' => k0 w' (gtrans HKW6.out hk')
      have q1 : ∀ w', Kept w6 w' → w'.cell? ⟨ag, ao + i * 2 + 1, none⟩ = some (.slice ax m cx) := fun w' hk' => k1 w' (gtrans HKW6.out hk')
      obtain ⟨s0, s1, s2, s3⟩ := HB6.out.facts
      have n0 := kcellS s0
      have n1' := kcellS s1
      have n2 := kcellS s2
      have n3 := kcellS s3
      have hkr : Kept w6 w6 := Kept.refl w6
      clear s0 s1 s2 s3
      go_upto_region 14 with fail
      go_region_held3 (fun w' => Kept w6 w') (first | assumption | exact Kept.refl _ | exact drew_kept _)
        ((go_at_call 16; refine (HDO.out _ (by first | assumption | exact drew_kept _ | exact Kept.refl _)).mono ?_; rintro e w7 ⟨a2, c2, rfl, hr7, hw7⟩; have k7 : Kept w6 w7 := gtrans (by first | assumption | exact drew_kept _ | exact Kept.refl _) hw7; have HV2 := hide1 hr7; clear hw7 hr7))
      have HK7 := hide1 k7
      clear q0 q1 n0 n1' n2 n3 hkr k7
      have HKW7 := hide1 (gtrans HKW6.out HK7.out)
      have HF7 := hide1 (HI6.out.2.2.1.keep HK7.out)
      have HV17 := hide1 (HV1.out.keep HK7.out)
      have HR7 := hide1 (HR5.out.keep (gtrans HK6.out HK7.out))
      have HX7 := hide1 (HX5.out.keep (gtrans HK6.out HK7.out))
      have HO7 := hide1 (HI5.out.1.keep (gtrans HK6.out HK7.out))
      have HP7 := hide1 (HI5.out.2.1.keep (gtrans HK6.out HK7.out))
      have HRT7 := hide1 (HRT.out.keep HKW7.out)
      have HNX7 := hide1 (HNX.out.keep HKW7.out)
      have HSI : Hid (∀ (w' : World) (z1 z2 : Value), Kept w7 w' → (z1 = .slice a1 n1 c1 ∧ z2 = .slice a2 n1 c2) ∨ (z1 = .slice (some ⟨xg, 0, none⟩) m xc' ∧ z2 = .slice ax m cx) → Calls Tryd.prog 10 #[z1, z2] w' fun e w2 => e = .returned (.bool true) ∧ Kept w' w2) := fun w' z1 z2 hk' hz => by
        rcases hz with ⟨rfl, rfl⟩ | ⟨rfl, rfl⟩
        · have h := sameIntsS_is a1 a2 n1 c1 n1 c2 l l w' HN1.out HN1.out (HV17.out.keep hk') (HV2.out.keep hk')
          rw [decide_eq_true rfl] at h
          exact h
        · have h := sameIntsS_is (some ⟨xg, 0, none⟩) ax m xc' m cx next next w' HM.out HM.out (HX7.out.keep hk') (HNX7.out.keep hk')
          rw [decide_eq_true rfl] at h
          exact h
      have HFT : Hid (∀ w', Calls Tryd.prog 17 #[.int .i64 xq, .int .i64 xe] w' fun e w2 => e = .returned (.agg #[.int .i64 xe, .int .i64 xq, .string ⟨#[]⟩]) ∧ Kept w' w2) := fun w' => fault7_is xe xq HLE.out.2 w'
      obtain ⟨p0, p1, p2⟩ := HF7.out.cells.1
      have q1 : ∀ w', Kept w7 w' → w'.cell? ⟨ag, ao + i * 2 + 1, none⟩ = some (.slice ax m cx) := fun w' hk' => k1 w' (gtrans HKW7.out hk')
      have y0 : w7.cell? ⟨xg, m, none⟩ = some (.int .i64 (-91)) := by
        have h := HP7.out.cell (i := m) (j := 0) (x := -91) (u := .int .i64 (-91)) (by rw [List.getElem?_append_right (by rw [HM.out]; exact Nat.le_refl _), HM.out, Nat.sub_self]; rfl) rfl
        rw [show m * inE.sz + 0 = m from Nat.mul_one m] at h
        exact h
      have y1 : w7.cell? ⟨xg, m + 1, none⟩ = some (.int .i64 (-92)) := by
        have h := HP7.out.cell (i := m + 1) (j := 0) (x := -92) (u := .int .i64 (-92)) (by rw [List.getElem?_append_right (by rw [HM.out]; exact Nat.le_succ _), HM.out, Nat.add_sub_cancel_left]; rfl) rfl
        rw [show (m + 1) * inE.sz + 0 = m + 1 from Nat.mul_one (m + 1)] at h
        exact h
      have y2 : w7.cell? ⟨rg, nr * 2, none⟩ = some (.int .i64 91) := by
        have h := HO7.out.cell (i := nr) (j := 0) (x := (91, 0)) (u := .int .i64 91) (by rw [List.getElem?_append_right (by rw [HNR.out]; exact Nat.le_refl _), HNR.out, Nat.sub_self]; rfl) rfl
        exact h
      have y3 : w7.cell? ⟨rg, (nr + 1) * 2, none⟩ = some (.int .i64 92) := by
        have h := HO7.out.cell (i := nr + 1) (j := 0) (x := (92, 0)) (u := .int .i64 92) (by rw [List.getElem?_append_right (by rw [HNR.out]; exact Nat.le_succ _), HNR.out, Nat.add_sub_cancel_left]; rfl) rfl
        exact h
      have g0 := kcellS p0
      have g1 := kcellS p1
      have g2 := kcellS p2
      have g3 := kcellS y0
      have g4 := kcellS y1
      have g5 := kcellS y2
      have g6 := kcellS y3
      have t0 : (m : Int) < (m2 : Int) := by have := HM2.out; omega
      have t1 : (m : Int) + 1 < (m2 : Int) := by have := HM2.out; omega
      have t2 : (nr : Int) < (nr2 : Int) := by have := HNR2.out; omega
      have t3 : (nr : Int) + 1 < (nr2 : Int) := by have := HNR2.out; omega
      have t6 : (0 : Int) ≤ (m : Int) + 1 := by omega
      have t7 : (0 : Int) ≤ (nr : Int) + 1 := by omega
      have t4 : (nr : Int) ≤ 17592186044416 := by omega
      have t5 : (m : Int) ≤ 17592186044416 := by omega
      have u0 : IntKind.i64.wrap ((m : Int) + 1) = (m : Int) + 1 := by rw [IntKind.wrap_i64] <;> omega
      have u1 : IntKind.i64.wrap ((nr : Int) + 1) = (nr : Int) + 1 := by rw [IntKind.wrap_i64] <;> omega
      have hkr : Kept w7 w7 := Kept.refl w7
      clear p0 p1 p2 y0 y1 y2 y3
      go_upto_region 15 with fail
      go_region_held3 (fun w' => Kept w7 w') (first | assumption | exact Kept.refl _ | exact drew_kept _)
        (first
        | (go_at_call 10; refine (HSI.out _ _ _ (by first | assumption | exact drew_kept _ | exact Kept.refl _) (by first | exact Or.inl ⟨rfl, rfl⟩ | exact Or.inr ⟨rfl, rfl⟩)).mono ?_; rintro e w8 ⟨rfl, hw8⟩; have k8 : Kept w7 w8 := gtrans (by first | assumption | exact drew_kept _ | exact Kept.refl _) hw8; clear hw8)
        | (go_at_call 17; refine (HFT.out _).mono ?_; rintro e w8 ⟨rfl, hw8⟩; have k8 : Kept w7 w8 := gtrans (by first | assumption | exact drew_kept _ | exact Kept.refl _) hw8; clear hw8))
      have HK8 := hide1 k8
      clear g0 g1 g2 g3 g4 g5 g6 q1 hkr k8 u0 u1 t0 t1 t2 t3 t6 t7 hcx5 HSI HFT
      have HKW8 := hide1 (gtrans HKW7.out HK8.out)
      have HO8 := hide1 (HO7.out.keep HK8.out)
      have HP8 := hide1 (HP7.out.keep HK8.out)
      have HRT8 := hide1 (HRT7.out.keep HK8.out)
      go_wp2_with fail
      refine wp_loop (HsJ (some ⟨ag, ao, none⟩) na ca b0 sb (.slice (some ⟨rg, 0, none⟩) nr2 rc') (.slice (some ⟨xg, 0, none⟩) m2 xc') i nr w8) (fun a' _ => nr - (intOf (a'.tmps.getD 16 undef)).toNat) ?_ ?_
      · exact ⟨0, hsK_of _ (by kernel_rfl), Nat.zero_le _, Kept.refl w8⟩
      · rintro a' wq ⟨q, ⟨T8, rfl⟩, hq, HQ⟩
        by_cases hlq : (q : Int) < (nr : Int)
        · obtain ⟨⟨yk, yn⟩, hy⟩ : ∃ y, row[q]? = some y := ⟨_, List.getElem?_eq_getElem (by have := HNR.out; omega)⟩
          obtain ⟨rb, ro, cs, ea, _, hlen, hcell, hcs⟩ := SliceOf.el (HRT8.out.keep HQ.out) hy
          have hcs : cs = [.int .i64 yk, .int .i64 yn] := hcs
          subst ea hcs
          have e0 : wq.cell? ⟨rb, ro + q * 2, none⟩ = some (.int .i64 yk) := hcell 0 _ rfl
          have e1 : wq.cell? ⟨rb, ro + q * 2 + 1, none⟩ = some (.int .i64 yn) := hcell 1 _ rfl
          have d0 : wq.cell? ⟨rg, q * 2, none⟩ = some (.int .i64 yk) := (HO8.out.keep HQ.out).cell (i := q) (j := 0) (x := (yk, yn)) (u := .int .i64 yk) (by rw [List.getElem?_append_left (List.getElem?_eq_some_iff.1 hy).1]; exact hy) rfl
          have d1 : wq.cell? ⟨rg, q * 2 + 1, none⟩ = some (.int .i64 yn) := (HO8.out.keep HQ.out).cell (i := q) (j := 1) (x := (yk, yn)) (u := .int .i64 yn) (by rw [List.getElem?_append_left (List.getElem?_eq_some_iff.1 hy).1]; exact hy) rfl
          have c0 := k0 wq (gtrans HKW8.out HQ.out)
          have t0 : (q : Int) < (nr2 : Int) := by have := HNR2.out; omega
          have t1 : (q : Int) < (cr : Int) := by omega
          clear hy hlen hcell
          go_upto_region 20 with fail
          go_quiet (fail)
          go_wp2_with fail
          refine ⟨⟨q + 1, hsK_of _ (by kernel_rfl), by omega, gtrans HQ.out (drewN_kept _ _)⟩, ?_⟩
          show nr - (intOf (.int .i64 ((q : Int) + 1))).toNat < nr - (intOf (.int .i64 (q : Int))).toNat
          simp [intOf] <;> omega
        · obtain rfl : q = nr := by omega
          go_wp2_with fail
          refine ⟨⟨i + 1, _, _, row ++ twoS, next ++ twoI, hsF_of _ (by kernel_rfl), by omega, HO8.out.keep HQ.out, HP8.out.keep HQ.out, gtrans HKW8.out HQ.out⟩, ?_⟩
          show na - (intOf (.int .i64 ((i : Int) + 1))).toNat < na - (intOf (.int .i64 (i : Int))).toNat
          simp [intOf] <;> omega
    · obtain rfl : i = na := by omega
      obtain ⟨ra, rc, rfl⟩ := HI.out.1.form
      obtain ⟨xa, xc, rfl⟩ := HI.out.2.1.form
      have HKR : Hid (Kept W3 wr) := HI.out.2.2
      have HW := hide1 (gtrans HK03.out HKR.out)
      obtain ⟨s0, s1, s2, s3⟩ := (HSB.out.keep HKR.out).facts
      obtain ⟨r0, r1, r2, r3⟩ := (HBB.out.keep HKR.out).facts
      go_wp2_with (go_at_call 18; refine (keptS_is k lex names ps g gn gq al an ap nl cl nn cn np cp st wr HLEN.out HNAM.out HPS.out hz1 hz2 hz3 HROW.out (HLT.out.keep HKR.out) (HL.out.keep HW.out) (HN.out.keep HW.out) (HP.out.keep HW.out)).mono ?_; rintro e w9 ⟨rfl, hk9⟩; have HK9 := hide1 hk9; clear hk9)
      go_ret
      exact ⟨rfl, gtrans HW.out HK9.out⟩

end Ex
end Go.Proofs.YtooelfjceehmmaaDoor
