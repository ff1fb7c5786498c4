import Derived.Test.YtkkilkojmdeopaaMDeKh
import Derived.Test.YtkkilkojmdeopaaMDeFi
import Derived.Test.YtkkilkojmdeopaaMDeLl
import Derived.Test.YtkkilkojmdeopaaMDeGr
namespace Go.Proofs.Ytkkilkojmdeopaa
open Go.RowKit
attribute [local go_sem] Oper.semAt_some
namespace Ex
namespace Tr

set_option maxRecDepth 100000 in
def BO (va : Option Addr) (np vc gb : Nat) (hv ov wv xv : Value) (i : Nat) (a : Act) : Prop := ∃ T : Nat → Value, a = { tmps := List.toArray (T 0 :: (.slice va np vc) :: T 2 :: T 3 :: (.bool false) :: (.pointer (some ⟨gb, 0, none⟩)) :: (.bool true) :: hv :: ov :: wv :: xv :: (.int .i64 (i : Int)) :: T 12 :: T 13 :: T 14 :: T 15 :: T 16 :: T 17 :: T 18 :: T 19 :: T 20 :: T 21 :: T 22 :: T 23 :: T 24 :: T 25 :: T 26 :: T 27 :: T 28 :: T 29 :: T 30 :: T 31 :: T 32 :: T 33 :: T 34 :: T 35 :: T 36 :: T 37 :: T 38 :: T 39 :: T 40 :: T 41 :: T 42 :: T 43 :: T 44 :: T 45 :: T 46 :: T 47 :: T 48 :: T 49 :: T 50 :: T 51 :: T 52 :: T 53 :: T 54 :: T 55 :: T 56 :: T 57 :: T 58 :: T 59 :: T 60 :: T 61 :: T 62 :: T 63 :: T 64 :: T 65 :: T 66 :: T 67 :: T 68 :: T 69 :: T 70 :: T 71 :: T 72 :: T 73 :: T 74 :: T 75 :: T 76 :: T 77 :: T 78 :: T 79 :: T 80 :: T 81 :: T 82 :: T 83 :: T 84 :: T 85 :: T 86 :: T 87 :: T 88 :: T 89 :: T 90 :: T 91 :: T 92 :: T 93 :: T 94 :: T 95 :: T 96 :: T 97 :: T 98 :: T 99 :: T 100 :: T 101 :: T 102 :: T 103 :: T 104 :: T 105 :: T 106 :: T 107 :: T 108 :: T 109 :: T 110 :: T 111 :: T 112 :: T 113 :: T 114 :: T 115 :: T 116 :: T 117 :: T 118 :: T 119 :: T 120 :: T 121 :: T 122 :: T 123 :: T 124 :: T 125 :: T 126 :: T 127 :: T 128 :: T 129 :: T 130 :: T 131 :: T 132 :: T 133 :: T 134 :: T 135 :: T 136 :: T 137 :: T 138 :: T 139 :: T 140 :: T 141 :: T 142 :: T 143 :: T 144 :: T 145 :: T 146 :: T 147 :: T 148 :: T 149 :: T 150 :: T 151 :: T 152 :: T 153 :: T 154 :: T 155 :: T 156 :: T 157 :: T 158 :: T 159 :: T 160 :: T 161 :: T 162 :: T 163 :: T 164 :: T 165 :: T 166 :: T 167 :: T 168 :: T 169 :: T 170 :: T 171 :: T 172 :: T 173 :: T 174 :: T 175 :: T 176 :: T 177 :: T 178 :: T 179 :: T 180 :: T 181 :: T 182 :: T 183 :: T 184 :: T 185 :: T 186 :: T 187 :: T 188 :: T 189 :: T 190 :: T 191 :: T 192 :: T 193 :: T 194 :: T 195 :: T 196 :: T 197 :: T 198 :: T 199 :: T 200 :: T 201 :: T 202 :: T 203 :: T 204 :: T 205 :: T 206 :: T 207 :: T 208 :: T 209 :: T 210 :: T 211 :: T 212 :: T 213 :: T 214 :: T 215 :: T 216 :: T 217 :: T 218 :: T 219 :: T 220 :: T 221 :: T 222 :: T 223 :: T 224 :: T 225 :: T 226 :: T 227 :: T 228 :: T 229 :: T 230 :: T 231 :: T 232 :: T 233 :: []), defers := [] }
set_option maxRecDepth 100000 in
theorem bO_of {va : Option Addr} {np vc gb : Nat} {hv ov wv xv : Value} {i : Nat} (L : List Value) (h : L = nthV L 0 :: (.slice va np vc) :: nthV L 2 :: nthV L 3 :: (.bool false) :: (.pointer (some ⟨gb, 0, none⟩)) :: (.bool true) :: hv :: ov :: wv :: xv :: (.int .i64 (i : Int)) :: nthV L 12 :: nthV L 13 :: nthV L 14 :: nthV L 15 :: nthV L 16 :: nthV L 17 :: nthV L 18 :: nthV L 19 :: nthV L 20 :: nthV L 21 :: nthV L 22 :: nthV L 23 :: nthV L 24 :: nthV L 25 :: nthV L 26 :: nthV L 27 :: nthV L 28 :: nthV L 29 :: nthV L 30 :: nthV L 31 :: nthV L 32 :: nthV L 33 :: nthV L 34 :: nthV L 35 :: nthV L 36 :: nthV L 37 :: nthV L 38 :: nthV L 39 :: nthV L 40 :: nthV L 41 :: nthV L 42 :: nthV L 43 :: nthV L 44 :: nthV L 45 :: nthV L 46 :: nthV L 47 :: nthV L 48 :: nthV L 49 :: nthV L 50 :: nthV L 51 :: nthV L 52 :: nthV L 53 :: nthV L 54 :: nthV L 55 :: nthV L 56 :: nthV L 57 :: nthV L 58 :: nthV L 59 :: nthV L 60 :: nthV L 61 :: nthV L 62 :: nthV L 63 :: nthV L 64 :: nthV L 65 :: nthV L 66 :: nthV L 67 :: nthV L 68 :: nthV L 69 :: nthV L 70 :: nthV L 71 :: nthV L 72 :: nthV L 73 :: nthV L 74 :: nthV L 75 :: nthV L 76 :: nthV L 77 :: nthV L 78 :: nthV L 79 :: nthV L 80 :: nthV L 81 :: nthV L 82 :: nthV L 83 :: nthV L 84 :: nthV L 85 :: nthV L 86 :: nthV L 87 :: nthV L 88 :: nthV L 89 :: nthV L 90 :: nthV L 91 :: nthV L 92 :: nthV L 93 :: nthV L 94 :: nthV L 95 :: nthV L 96 :: nthV L 97 :: nthV L 98 :: nthV L 99 :: nthV L 100 :: nthV L 101 :: nthV L 102 :: nthV L 103 :: nthV L 104 :: nthV L 105 :: nthV L 106 :: nthV L 107 :: nthV L 108 :: nthV L 109 :: nthV L 110 :: nthV L 111 :: nthV L 112 :: nthV L 113 :: nthV L 114 :: nthV L 115 :: nthV L 116 :: nthV L 117 :: nthV L 118 :: nthV L 119 :: nthV L 120 :: nthV L 121 :: nthV L 122 :: nthV L 123 :: nthV L 124 :: nthV L 125 :: nthV L 126 :: nthV L 127 :: nthV L 128 :: nthV L 129 :: nthV L 130 :: nthV L 131 :: nthV L 132 :: nthV L 133 :: nthV L 134 :: nthV L 135 :: nthV L 136 :: nthV L 137 :: nthV L 138 :: nthV L 139 :: nthV L 140 :: nthV L 141 :: nthV L 142 :: nthV L 143 :: nthV L 144 :: nthV L 145 :: nthV L 146 :: nthV L 147 :: nthV L 148 :: nthV L 149 :: nthV L 150 :: nthV L 151 :: nthV L 152 :: nthV L 153 :: nthV L 154 :: nthV L 155 :: nthV L 156 :: nthV L 157 :: nthV L 158 :: nthV L 159 :: nthV L 160 :: nthV L 161 :: nthV L 162 :: nthV L 163 :: nthV L 164 :: nthV L 165 :: nthV L 166 :: nthV L 167 :: nthV L 168 :: nthV L 169 :: nthV L 170 :: nthV L 171 :: nthV L 172 :: nthV L 173 :: nthV L 174 :: nthV L 175 :: nthV L 176 :: nthV L 177 :: nthV L 178 :: nthV L 179 :: nthV L 180 :: nthV L 181 :: nthV L 182 :: nthV L 183 :: nthV L 184 :: nthV L 185 :: nthV L 186 :: nthV L 187 :: nthV L 188 :: nthV L 189 :: nthV L 190 :: nthV L 191 :: nthV L 192 :: nthV L 193 :: nthV L 194 :: nthV L 195 :: nthV L 196 :: nthV L 197 :: nthV L 198 :: nthV L 199 :: nthV L 200 :: nthV L 201 :: nthV L 202 :: nthV L 203 :: nthV L 204 :: nthV L 205 :: nthV L 206 :: nthV L 207 :: nthV L 208 :: nthV L 209 :: nthV L 210 :: nthV L 211 :: nthV L 212 :: nthV L 213 :: nthV L 214 :: nthV L 215 :: nthV L 216 :: nthV L 217 :: nthV L 218 :: nthV L 219 :: nthV L 220 :: nthV L 221 :: nthV L 222 :: nthV L 223 :: nthV L 224 :: nthV L 225 :: nthV L 226 :: nthV L 227 :: nthV L 228 :: nthV L 229 :: nthV L 230 :: nthV L 231 :: nthV L 232 :: nthV L 233 :: []) : BO va np vc gb hv ov wv xv i { tmps := L.toArray, defers := [] } := ⟨fun k => nthV L k, by rw [← h]⟩
set_option maxRecDepth 100000 in
def BI (va : Option Addr) (np vc gb : Nat) (hv ov wv xv : Value) (i ra r9 k : Nat) (q0 : Value) (a : Act) : Prop := ∃ T : Nat → Value, a = { tmps := List.toArray (T 0 :: (.slice va np vc) :: T 2 :: T 3 :: (.bool false) :: (.pointer (some ⟨gb, 0, none⟩)) :: (.bool true) :: hv :: ov :: wv :: xv :: (.int .i64 (i : Int)) :: (.int .i64 (ra : Int)) :: (.int .i64 (r9 : Int)) :: q0 :: (.int .i64 (k : Int)) :: T 16 :: T 17 :: T 18 :: T 19 :: T 20 :: T 21 :: T 22 :: T 23 :: T 24 :: T 25 :: T 26 :: T 27 :: T 28 :: T 29 :: T 30 :: T 31 :: T 32 :: T 33 :: T 34 :: T 35 :: T 36 :: T 37 :: T 38 :: T 39 :: T 40 :: T 41 :: T 42 :: T 43 :: T 44 :: T 45 :: T 46 :: T 47 :: T 48 :: T 49 :: T 50 :: T 51 :: T 52 :: T 53 :: T 54 :: T 55 :: T 56 :: T 57 :: T 58 :: T 59 :: T 60 :: T 61 :: T 62 :: T 63 :: T 64 :: T 65 :: T 66 :: T 67 :: T 68 :: T 69 :: T 70 :: T 71 :: T 72 :: T 73 :: T 74 :: T 75 :: T 76 :: T 77 :: T 78 :: T 79 :: T 80 :: T 81 :: T 82 :: T 83 :: T 84 :: T 85 :: T 86 :: T 87 :: T 88 :: T 89 :: T 90 :: T 91 :: T 92 :: T 93 :: T 94 :: T 95 :: T 96 :: T 97 :: T 98 :: T 99 :: T 100 :: T 101 :: T 102 :: T 103 :: T 104 :: T 105 :: T 106 :: T 107 :: T 108 :: T 109 :: T 110 :: T 111 :: T 112 :: T 113 :: T 114 :: T 115 :: T 116 :: T 117 :: T 118 :: T 119 :: T 120 :: T 121 :: T 122 :: T 123 :: T 124 :: T 125 :: T 126 :: T 127 :: T 128 :: T 129 :: T 130 :: T 131 :: T 132 :: T 133 :: T 134 :: T 135 :: T 136 :: T 137 :: T 138 :: T 139 :: T 140 :: T 141 :: T 142 :: T 143 :: T 144 :: T 145 :: T 146 :: T 147 :: T 148 :: T 149 :: T 150 :: T 151 :: T 152 :: T 153 :: T 154 :: T 155 :: T 156 :: T 157 :: T 158 :: T 159 :: T 160 :: T 161 :: T 162 :: T 163 :: T 164 :: T 165 :: T 166 :: T 167 :: T 168 :: T 169 :: T 170 :: T 171 :: T 172 :: T 173 :: T 174 :: T 175 :: T 176 :: T 177 :: T 178 :: T 179 :: T 180 :: T 181 :: T 182 :: T 183 :: T 184 :: T 185 :: T 186 :: T 187 :: T 188 :: T 189 :: T 190 :: T 191 :: T 192 :: T 193 :: T 194 :: T 195 :: T 196 :: T 197 :: T 198 :: T 199 :: T 200 :: T 201 :: T 202 :: T 203 :: T 204 :: T 205 :: T 206 :: T 207 :: T 208 :: T 209 :: T 210 :: T 211 :: T 212 :: T 213 :: T 214 :: T 215 :: T 216 :: T 217 :: T 218 :: T 219 :: T 220 :: T 221 :: T 222 :: T 223 :: T 224 :: T 225 :: T 226 :: T 227 :: T 228 :: T 229 :: T 230 :: T 231 :: T 232 :: T 233 :: []), defers := [] }
set_option maxRecDepth 100000 in
theorem bI_of {va : Option Addr} {np vc gb : Nat} {hv ov wv xv : Value} {i ra r9 k : Nat} {q0 : Value} (L : List Value) (h : L = nthV L 0 :: (.slice va np vc) :: nthV L 2 :: nthV L 3 :: (.bool false) :: (.pointer (some ⟨gb, 0, none⟩)) :: (.bool true) :: hv :: ov :: wv :: xv :: (.int .i64 (i : Int)) :: (.int .i64 (ra : Int)) :: (.int .i64 (r9 : Int)) :: q0 :: (.int .i64 (k : Int)) :: nthV L 16 :: nthV L 17 :: nthV L 18 :: nthV L 19 :: nthV L 20 :: nthV L 21 :: nthV L 22 :: nthV L 23 :: nthV L 24 :: nthV L 25 :: nthV L 26 :: nthV L 27 :: nthV L 28 :: nthV L 29 :: nthV L 30 :: nthV L 31 :: nthV L 32 :: nthV L 33 :: nthV L 34 :: nthV L 35 :: nthV L 36 :: nthV L 37 :: nthV L 38 :: nthV L 39 :: nthV L 40 :: nthV L 41 :: nthV L 42 :: nthV L 43 :: nthV L 44 :: nthV L 45 :: nthV L 46 :: nthV L 47 :: nthV L 48 :: nthV L 49 :: nthV L 50 :: nthV L 51 :: nthV L 52 :: nthV L 53 :: nthV L 54 :: nthV L 55 :: nthV L 56 :: nthV L 57 :: nthV L 58 :: nthV L 59 :: nthV L 60 :: nthV L 61 :: nthV L 62 :: nthV L 63 :: nthV L 64 :: nthV L 65 :: nthV L 66 :: nthV L 67 :: nthV L 68 :: nthV L 69 :: nthV L 70 :: nthV L 71 :: nthV L 72 :: nthV L 73 :: nthV L 74 :: nthV L 75 :: nthV L 76 :: nthV L 77 :: nthV L 78 :: nthV L 79 :: nthV L 80 :: nthV L 81 :: nthV L 82 :: nthV L 83 :: nthV L 84 :: nthV L 85 :: nthV L 86 :: nthV L 87 :: nthV L 88 :: nthV L 89 :: nthV L 90 :: nthV L 91 :: nthV L 92 :: nthV L 93 :: nthV L 94 :: nthV L 95 :: nthV L 96 :: nthV L 97 :: nthV L 98 :: nthV L 99 :: nthV L 100 :: nthV L 101 :: nthV L 102 :: nthV L 103 :: nthV L 104 :: nthV L 105 :: nthV L 106 :: nthV L 107 :: nthV L 108 :: nthV L 109 :: nthV L 110 :: nthV L 111 :: nthV L 112 :: nthV L 113 :: nthV L 114 :: nthV L 115 :: nthV L 116 :: nthV L 117 :: nthV L 118 :: nthV L 119 :: nthV L 120 :: nthV L 121 :: nthV L 122 :: nthV L 123 :: nthV L 124 :: nthV L 125 :: nthV L 126 :: nthV L 127 :: nthV L 128 :: nthV L 129 :: nthV L 130 :: nthV L 131 :: nthV L 132 :: nthV L 133 :: nthV L 134 :: nthV L 135 :: nthV L 136 :: nthV L 137 :: nthV L 138 :: nthV L 139 :: nthV L 140 :: nthV L 141 :: nthV L 142 :: nthV L 143 :: nthV L 144 :: nthV L 145 :: nthV L 146 :: nthV L 147 :: nthV L 148 :: nthV L 149 :: nthV L 150 :: nthV L 151 :: nthV L 152 :: nthV L 153 :: nthV L 154 :: nthV L 155 :: nthV L 156 :: nthV L 157 :: nthV L 158 :: nthV L 159 :: nthV L 160 :: nthV L 161 :: nthV L 162 :: nthV L 163 :: nthV L 164 :: nthV L 165 :: nthV L 166 :: nthV L 167 :: nthV L 168 :: nthV L 169 :: nthV L 170 :: nthV L 171 :: nthV L 172 :: nthV L 173 :: nthV L 174 :: nthV L 175 :: nthV L 176 :: nthV L 177 :: nthV L 178 :: nthV L 179 :: nthV L 180 :: nthV L 181 :: nthV L 182 :: nthV L 183 :: nthV L 184 :: nthV L 185 :: nthV L 186 :: nthV L 187 :: nthV L 188 :: nthV L 189 :: nthV L 190 :: nthV L 191 :: nthV L 192 :: nthV L 193 :: nthV L 194 :: nthV L 195 :: nthV L 196 :: nthV L 197 :: nthV L 198 :: nthV L 199 :: nthV L 200 :: nthV L 201 :: nthV L 202 :: nthV L 203 :: nthV L 204 :: nthV L 205 :: nthV L 206 :: nthV L 207 :: nthV L 208 :: nthV L 209 :: nthV L 210 :: nthV L 211 :: nthV L 212 :: nthV L 213 :: nthV L 214 :: nthV L 215 :: nthV L 216 :: nthV L 217 :: nthV L 218 :: nthV L 219 :: nthV L 220 :: nthV L 221 :: nthV L 222 :: nthV L 223 :: nthV L 224 :: nthV L 225 :: nthV L 226 :: nthV L 227 :: nthV L 228 :: nthV L 229 :: nthV L 230 :: nthV L 231 :: nthV L 232 :: nthV L 233 :: []) : BI va np vc gb hv ov wv xv i ra r9 k q0 { tmps := L.toArray, defers := [] } := ⟨fun k => nthV L k, by rw [← h]⟩
set_option maxRecDepth 100000 in
def BT (va : Option Addr) (np vc gb : Nat) (hv ov wv xv : Value) (i : Nat) (a : Act) : Prop := ∃ T : Nat → Value, a = { tmps := List.toArray (T 0 :: (.slice va np vc) :: T 2 :: T 3 :: (.bool false) :: (.pointer (some ⟨gb, 0, none⟩)) :: (.bool true) :: hv :: ov :: wv :: xv :: T 11 :: T 12 :: T 13 :: T 14 :: T 15 :: T 16 :: T 17 :: T 18 :: (.int .i64 (i : Int)) :: T 20 :: T 21 :: T 22 :: T 23 :: T 24 :: T 25 :: T 26 :: T 27 :: T 28 :: T 29 :: T 30 :: T 31 :: T 32 :: T 33 :: T 34 :: T 35 :: T 36 :: T 37 :: T 38 :: T 39 :: T 40 :: T 41 :: T 42 :: T 43 :: T 44 :: T 45 :: T 46 :: T 47 :: T 48 :: T 49 :: T 50 :: T 51 :: T 52 :: T 53 :: T 54 :: T 55 :: T 56 :: T 57 :: T 58 :: T 59 :: T 60 :: T 61 :: T 62 :: T 63 :: T 64 :: T 65 :: T 66 :: T 67 :: T 68 :: T 69 :: T 70 :: T 71 :: T 72 :: T 73 :: T 74 :: T 75 :: T 76 :: T 77 :: T 78 :: T 79 :: T 80 :: T 81 :: T 82 :: T 83 :: T 84 :: T 85 :: T 86 :: T 87 :: T 88 :: T 89 :: T 90 :: T 91 :: T 92 :: T 93 :: T 94 :: T 95 :: T 96 :: T 97 :: T 98 :: T 99 :: T 100 :: T 101 :: T 102 :: T 103 :: T 104 :: T 105 :: T 106 :: T 107 :: T 108 :: T 109 :: T 110 :: T 111 :: T 112 :: T 113 :: T 114 :: T 115 :: T 116 :: T 117 :: T 118 :: T 119 :: T 120 :: T 121 :: T 122 :: T 123 :: T 124 :: T 125 :: T 126 :: T 127 :: T 128 :: T 129 :: T 130 :: T 131 :: T 132 :: T 133 :: T 134 :: T 135 :: T 136 :: T 137 :: T 138 :: T 139 :: T 140 :: T 141 :: T 142 :: T 143 :: T 144 :: T 145 :: T 146 :: T 147 :: T 148 :: T 149 :: T 150 :: T 151 :: T 152 :: T 153 :: T 154 :: T 155 :: T 156 :: T 157 :: T 158 :: T 159 :: T 160 :: T 161 :: T 162 :: T 163 :: T 164 :: T 165 :: T 166 :: T 167 :: T 168 :: T 169 :: T 170 :: T 171 :: T 172 :: T 173 :: T 174 :: T 175 :: T 176 :: T 177 :: T 178 :: T 179 :: T 180 :: T 181 :: T 182 :: T 183 :: T 184 :: T 185 :: T 186 :: T 187 :: T 188 :: T 189 :: T 190 :: T 191 :: T 192 :: T 193 :: T 194 :: T 195 :: T 196 :: T 197 :: T 198 :: T 199 :: T 200 :: T 201 :: T 202 :: T 203 :: T 204 :: T 205 :: T 206 :: T 207 :: T 208 :: T 209 :: T 210 :: T 211 :: T 212 :: T 213 :: T 214 :: T 215 :: T 216 :: T 217 :: T 218 :: T 219 :: T 220 :: T 221 :: T 222 :: T 223 :: T 224 :: T 225 :: T 226 :: T 227 :: T 228 :: T 229 :: T 230 :: T 231 :: T 232 :: T 233 :: []), defers := [] }
set_option maxRecDepth 100000 in
theorem bT_of {va : Option Addr} {np vc gb : Nat} {hv ov wv xv : Value} {i : Nat} (L : List Value) (h : L = nthV L 0 :: (.slice va np vc) :: nthV L 2 :: nthV L 3 :: (.bool false) :: (.pointer (some ⟨gb, 0, none⟩)) :: (.bool true) :: hv :: ov :: wv :: xv :: nthV L 11 :: nthV L 12 :: nthV L 13 :: nthV L 14 :: nthV L 15 :: nthV L 16 :: nthV L 17 :: nthV L 18 :: (.int .i64 (i : Int)) :: nthV L 20 :: nthV L 21 :: nthV L 22 :: nthV L 23 :: nthV L 24 :: nthV L 25 :: nthV L 26 :: nthV L 27 :: nthV L 28 :: nthV L 29 :: nthV L 30 :: nthV L 31 :: nthV L 32 :: nthV L 33 :: nthV L 34 :: nthV L 35 :: nthV L 36 :: nthV L 37 :: nthV L 38 :: nthV L 39 :: nthV L 40 :: nthV L 41 :: nthV L 42 :: nthV L 43 :: nthV L 44 :: nthV L 45 :: nthV L 46 :: nthV L 47 :: nthV L 48 :: nthV L 49 :: nthV L 50 :: nthV L 51 :: nthV L 52 :: nthV L 53 :: nthV L 54 :: nthV L 55 :: nthV L 56 :: nthV L 57 :: nthV L 58 :: nthV L 59 :: nthV L 60 :: nthV L 61 :: nthV L 62 :: nthV L 63 :: nthV L 64 :: nthV L 65 :: nthV L 66 :: nthV L 67 :: nthV L 68 :: nthV L 69 :: nthV L 70 :: nthV L 71 :: nthV L 72 :: nthV L 73 :: nthV L 74 :: nthV L 75 :: nthV L 76 :: nthV L 77 :: nthV L 78 :: nthV L 79 :: nthV L 80 :: nthV L 81 :: nthV L 82 :: nthV L 83 :: nthV L 84 :: nthV L 85 :: nthV L 86 :: nthV L 87 :: nthV L 88 :: nthV L 89 :: nthV L 90 :: nthV L 91 :: nthV L 92 :: nthV L 93 :: nthV L 94 :: nthV L 95 :: nthV L 96 :: nthV L 97 :: nthV L 98 :: nthV L 99 :: nthV L 100 :: nthV L 101 :: nthV L 102 :: nthV L 103 :: nthV L 104 :: nthV L 105 :: nthV L 106 :: nthV L 107 :: nthV L 108 :: nthV L 109 :: nthV L 110 :: nthV L 111 :: nthV L 112 :: nthV L 113 :: nthV L 114 :: nthV L 115 :: nthV L 116 :: nthV L 117 :: nthV L 118 :: nthV L 119 :: nthV L 120 :: nthV L 121 :: nthV L 122 :: nthV L 123 :: nthV L 124 :: nthV L 125 :: nthV L 126 :: nthV L 127 :: nthV L 128 :: nthV L 129 :: nthV L 130 :: nthV L 131 :: nthV L 132 :: nthV L 133 :: nthV L 134 :: nthV L 135 :: nthV L 136 :: nthV L 137 :: nthV L 138 :: nthV L 139 :: nthV L 140 :: nthV L 141 :: nthV L 142 :: nthV L 143 :: nthV L 144 :: nthV L 145 :: nthV L 146 :: nthV L 147 :: nthV L 148 :: nthV L 149 :: nthV L 150 :: nthV L 151 :: nthV L 152 :: nthV L 153 :: nthV L 154 :: nthV L 155 :: nthV L 156 :: nthV L 157 :: nthV L 158 :: nthV L 159 :: nthV L 160 :: nthV L 161 :: nthV L 162 :: nthV L 163 :: nthV L 164 :: nthV L 165 :: nthV L 166 :: nthV L 167 :: nthV L 168 :: nthV L 169 :: nthV L 170 :: nthV L 171 :: nthV L 172 :: nthV L 173 :: nthV L 174 :: nthV L 175 :: nthV L 176 :: nthV L 177 :: nthV L 178 :: nthV L 179 :: nthV L 180 :: nthV L 181 :: nthV L 182 :: nthV L 183 :: nthV L 184 :: nthV L 185 :: nthV L 186 :: nthV L 187 :: nthV L 188 :: nthV L 189 :: nthV L 190 :: nthV L 191 :: nthV L 192 :: nthV L 193 :: nthV L 194 :: nthV L 195 :: nthV L 196 :: nthV L 197 :: nthV L 198 :: nthV L 199 :: nthV L 200 :: nthV L 201 :: nthV L 202 :: nthV L 203 :: nthV L 204 :: nthV L 205 :: nthV L 206 :: nthV L 207 :: nthV L 208 :: nthV L 209 :: nthV L 210 :: nthV L 211 :: nthV L 212 :: nthV L 213 :: nthV L 214 :: nthV L 215 :: nthV L 216 :: nthV L 217 :: nthV L 218 :: nthV L 219 :: nthV L 220 :: nthV L 221 :: nthV L 222 :: nthV L 223 :: nthV L 224 :: nthV L 225 :: nthV L 226 :: nthV L 227 :: nthV L 228 :: nthV L 229 :: nthV L 230 :: nthV L 231 :: nthV L 232 :: nthV L 233 :: []) : BT va np vc gb hv ov wv xv i { tmps := L.toArray, defers := [] } := ⟨fun k => nthV L k, by rw [← h]⟩
/-- Between two rounds of the outer loop. -/
def BkO (va : Option Addr) (np vc gb : Nat) (w1 : World) (a' : Act) (w' : World) : Prop :=
  ∃ (hv ov wv xv : Value) (i L : Nat) (vH vO wH wO : List SlV) (lh : Nat → List Hk) (lo : Nat → List OpM), BO va np vc gb hv ov wv xv i a' ∧ i ≤ 12 ∧ i ≤ np ∧ L ≤ 4 * i ∧ Hid (BkS w1 w' hv ov wv xv L vH vO wH wO lh lo)
/-- Between two rounds of the inner loop. -/
def BkI (va : Option Addr) (np vc gb : Nat) (w1 : World) (i ra r9 b0 : Nat) (q0 : Value) (rs : List Nd) (a' : Act) (w' : World) : Prop :=
  ∃ (hv ov wv xv : Value) (k L : Nat) (vH vO wH wO : List SlV) (lh : Nat → List Hk) (lo : Nat → List OpM), BI va np vc gb hv ov wv xv i ra r9 k q0 a' ∧ k ≤ 4 ∧ L ≤ 4 * i + k ∧ Hid (BkS w1 w' hv ov wv xv L vH vO wH wO lh lo) ∧ Hid (LO rwE w' b0 q0 rs)
/-- Between two rounds of the last loop. -/
def BkT (va : Option Addr) (np vc gb : Nat) (wS : World) (hv ov wv xv : Value) (L : Nat) (a' : Act) (w' : World) : Prop :=
  ∃ i : Nat, BT va np vc gb hv ov wv xv i a' ∧ i ≤ L ∧ Hid (Kept wS w')
theorem kept_new {w w' : World} {cs : Array Value} {t : TypeId} (hg : (w.alloc (.cells cs t)).grownBy w' (Value.slice (some ⟨w.heap.size, 0, none⟩) 0 0).ownBlock) : Kept w w' := by
  have h := (Kept.refl w).alloc cs t
  refine ⟨hg.os.trans h.1, hg.tape.trans h.2.1, hg.output.trans h.2.2.1, Nat.le_trans h.size hg.size, fun k hk => (hg.block k (Nat.lt_of_lt_of_le hk h.size) (fun e => ?_)).trans (h.2.2.2.2 k hk)⟩
  simp only [Value.ownBlock, Option.some.injEq] at e
  omega
theorem frameB {c : Code} {Q : Exit → Act → World → Prop} {a : Act} {w : World} {R : Act → Prop} (h : R a) (k : ∀ a', R a' → c.wp Try.prog Q a' w) : c.wp Try.prog Q a w := k a h
set_option linter.unusedSimpArgs false in
set_option maxRecDepth 100000 in
set_option maxHeartbeats 8000000 in
theorem lawBook (v0 v1 : Value) (ps : List (Int × Int)) (w : World) (hGr : Calls Try.prog 6 #[v0] w (GroveOut w)) (h1 : PairsIn w v1 ps) :
    Calls Try.prog 5 #[v0, v1] w fun e w' => e = .returned (.bool true) ∧ Kept w w' := by
  obtain ⟨np, hnp⟩ : ∃ n, ps.length = n := ⟨_, rfl⟩
  obtain ⟨pa, pc, rfl, hp1, hp2⟩ : ∃ a c, v1 = .slice a np c ∧ np ≤ c ∧ np ≤ 17592186044416 := by
    obtain ⟨a, c, h2, h3, h4, _⟩ := h1
    rw [hnp] at h2 h3 h4
    exact ⟨a, c, h2, h3, h4⟩
  have HPS := hide1 h1
  have HNP := hide1 hnp
  have HGR := hide1 hGr
  have hpI : (np : Int) ≤ (pc : Int) := by omega
  have hpI2 : (np : Int) ≤ 17592186044416 := by omega
  clear h1 hnp hGr hp1 hp2
  go_enter Try.func5, Try.ntmps5
  go_wp2_with (go_at_call 6; refine HGR.out.mono ?_; rintro e w1 ⟨gb, base, s, rfl, hI, hk1, hr1, hr2⟩; have HI := hide1 hI; have HK1 := hide1 hk1; clear hI hk1)
  obtain ⟨V, P, Q, N, X, vN, vP, hM, hT, hPi⟩ := HI.out
  obtain ⟨pn, hpn⟩ : ∃ pn, P.length = pn := ⟨_, rfl⟩
  have hqn : Q.length = pn := by rw [← hT.1]; exact hpn
  obtain ⟨aN, cN, rfl⟩ : ∃ a c, vN = .slice a pn c := by rw [← hpn]; exact hM.nl.form
  obtain ⟨aP, cP, rfl⟩ : ∃ a c, vP = .slice a pn c := by rw [← hqn]; exact hM.pl.form
  rw [hpn] at hM hPi
  have HM := hide1 hM
  have HT := hide1 hT
  have HPN := hide1 hpn
  have HQN := hide1 hqn
  have hpnI : (pn : Int) ≤ 200 := by omega
  have HGX : Hid (∀ W, Kept w1 W → W.cell? ⟨gb, 1, none⟩ = some (.slice aN pn cN) ∧ W.cell? ⟨gb, 2, none⟩ = some (.slice aP pn cP)) := fun W hW => by
    have h9 := (HM.out.keep hW).box
    exact ⟨by simp [World.cell?, h9], by simp [World.cell?, h9]⟩
  have HPX : Hid (∀ W, Kept w1 W → PairsIn W (.slice pa np pc) ps) := fun W hW => HPS.out.keep (gtrans HK1.out hW)
  clear hM hT hpn hqn HI HGR hr1 hr2 hPi
  refine wp_loop (BkO pa np pc gb w1) (fun a' _ => 12 - (intOf (a'.tmps.getD 11 undef)).toNat) ?_ ?_
  · exact ⟨_, _, _, _, 0, 0, [], [], [], [], fun _ => [], fun _ => [], bO_of _ (by kernel_rfl), by omega, by omega, by omega, BkS.start⟩
  · rintro a' wr ⟨hv, ov, wv, xv, i, L, vH, vO, wH, wO, lh, lo, ⟨T, rfl⟩, hi12, hi, hL, HS⟩
    have HKR : Hid (Kept w1 wr) := HS.out.fo.kp
    obtain ⟨y1, y2⟩ := HGX.out wr HKR.out
    by_cases hgo : (i < np ∧ i < 12) ∧ 0 < pn
    · obtain ⟨⟨hi1, hi2⟩, hp1⟩ := hgo
      obtain ⟨x, hx⟩ : ∃ x, ps[i]? = some x := ⟨_, List.getElem?_eq_getElem (by rw [HNP.out]; exact hi1)⟩
      obtain ⟨pg, po, rfl, t0, t1⟩ := (HPX.out wr HKR.out).at' hx
      obtain ⟨x0, x1⟩ := x
      dsimp only at t0 t1
      have HV0 : Hid (∀ W, Calls Try.prog 7 #[.int .i64 x0, .int .i64 (pn : Int)] W fun e w' => e = .returned (.int .i64 (wiN x0 pn : Int)) ∧ w' = W) := fun W => withinD_is x0 pn W hp1 (by omega)
      have HV1 : Hid (∀ W, Calls Try.prog 7 #[.int .i64 x1, .int .i64 (pn : Int)] W fun e w' => e = .returned (.int .i64 (wiN x1 pn : Int)) ∧ w' = W) := fun W => withinD_is x1 pn W hp1 (by omega)
      have hra := wiN_lt x0 hp1
      have hrb := wiN_lt x1 hp1
      obtain ⟨ra, hra2⟩ : ∃ r, wiN x0 pn = r := ⟨_, rfl⟩
      obtain ⟨r9, hrb2⟩ : ∃ r, wiN x1 pn = r := ⟨_, rfl⟩
      rw [hra2] at HV0 hra
      rw [hrb2] at HV1 hrb
      have hi1I : (i : Int) < (np : Int) := by omega
      have hi2I : (i : Int) < 12 := by omega
      have hp1I : (0 : Int) < (pn : Int) := by omega
      have hraI : (ra : Int) < (pn : Int) := by omega
      have hrbI : (r9 : Int) < (pn : Int) := by omega
      obtain ⟨a, ha⟩ : ∃ b, P[ra]? = some b := ⟨_, List.getElem?_eq_getElem (by rw [HPN.out]; exact hra)⟩
      obtain ⟨b, hb⟩ : ∃ b, P[r9]? = some b := ⟨_, List.getElem?_eq_getElem (by rw [HPN.out]; exact hrb)⟩
      obtain ⟨da, hda⟩ : ∃ b, Q[ra]? = some b := ⟨_, List.getElem?_eq_getElem (by rw [HQN.out]; exact hra)⟩
      obtain ⟨db, hdb⟩ : ∃ b, Q[r9]? = some b := ⟨_, List.getElem?_eq_getElem (by rw [HQN.out]; exact hrb)⟩
      have hM1 := HM.out
      obtain ⟨gN, gP, rfl, rfl, u1, u2⟩ := gr_read hM1 ha hda
      obtain ⟨gN', gP', hgN', hgP', u3, u4⟩ := gr_read hM1 hb hdb
      injection hgN' with hgN'
      injection hgN' with hgN'
      injection hgP' with hgP'
      injection hgP' with hgP'
      subst hgN' hgP'
      have kA := kcell u1
      have kB := kcell u3
      have kC := kcell u2
      have kD := kcell u4
      have HKC : Hid (∀ W, Kept w1 W → (W.cell? ⟨gb, 1, none⟩ = some (.slice (some ⟨gN, 0, none⟩) pn cN) ∧ W.cell? ⟨gb, 2, none⟩ = some (.slice (some ⟨gP, 0, none⟩) pn cP)) ∧ (W.cell? ⟨gN, ra, none⟩ = some (.pointer (some ⟨a, 0, none⟩)) ∧ W.cell? ⟨gN, r9, none⟩ = some (.pointer (some ⟨b, 0, none⟩))) ∧ W.cell? ⟨gP, ra, none⟩ = some (.pointer (some ⟨da, 0, none⟩)) ∧ W.cell? ⟨gP, r9, none⟩ = some (.pointer (some ⟨db, 0, none⟩))) := fun W hW => ⟨HGX.out W hW, ⟨kA W hW, kB W hW⟩, kC W hW, kD W hW⟩
      obtain ⟨HH, hHH⟩ : ∃ HS, hunksL N a b = HS := ⟨_, rfl⟩
      obtain ⟨LH, hLH⟩ : ∃ L, HH.length = L := ⟨_, rfl⟩
      have hLH4 : LH ≤ 4194305 := by
        have h1 := hks_len (numL N (lvs N a)).length (numL N (lvs N b)).length (pairsL (numL N (lvs N a)) (numL N (lvs N b))) 0 0
        have h2 := cnt_len (numL N (lvs N a)) (numL N (lvs N b)) (numL N (lvs N a)) 0 0
        have h3 : (numL N (lvs N a)).length ≤ 4194304 := by unfold numL; rw [List.length_map]; exact lvs_len (gr_forest hM1 HT.out) (List.mem_of_getElem? ha)
        rw [← hLH, ← hHH]
        unfold hunksL pairsL at *
        omega
      have HLV : Hid (∀ W, Kept w1 W → Calls Try.prog 9 #[.pointer (some ⟨a, 0, none⟩), .pointer (some ⟨b, 0, none⟩)] W fun e w' => ∃ v, e = .returned v ∧ LO hkE w' W.heap.size v HH ∧ Kept W w') := fun W hW => by
        rw [← hHH]
        exact leavesD_is (fun b => b ∈ P) N W.heap.size a b W (gr_forest (hM1.keep hW) HT.out) (gr_sum HT.out) (gr_num HT.out (by rw [HPN.out]; omega)) (List.mem_of_getElem? ha) (List.mem_of_getElem? hb) (Nat.le_refl _)
      have HHU : Hid (∀ W, Kept w1 W → Calls Try.prog 18 #[.pointer (some ⟨da, 0, none⟩), .pointer (some ⟨db, 0, none⟩)] W fun e w' => ∃ v, e = .returned v ∧ LO hkE w' W.heap.size v HH ∧ Kept W w') := fun W hW => by
        have hMW := hM1.keep hW
        have h9 := tw_hunks hMW HT.out (i := ra) (j := r9) (by rw [HPN.out]; exact hra) (by rw [HPN.out]; exact hrb)
        rw [atL_some ha, atL_some hb, atL_some hda, atL_some hdb, hHH] at h9
        have h := hunksP_is (fun d => d ∈ Q) X (rkX X) da db W (gr_pfor hMW HT.out) (tw_lens hMW HT.out) (List.mem_of_getElem? hda) (List.mem_of_getElem? hdb)
        rw [h9] at h
        exact h
      obtain ⟨SS, hSS⟩ : ∃ SS, stp N (nodeF N (walkL N a)) b = SS := ⟨_, rfl⟩
      obtain ⟨LS, hLS⟩ : ∃ L, SS.length = L := ⟨_, rfl⟩
      have hFz := gr_forest hM1 HT.out
      have hLS4 : LS ≤ 4194304 := by
        rw [← hLS, ← hSS]
        have h1 := stp_len hFz (nodeF N (walkL N a)) (N b).size b (List.mem_of_getElem? hb) (Nat.le_refl _)
        have h2 := (hFz b (List.mem_of_getElem? hb)).2.1.2.1
        omega
      have HSC : Hid (∀ W, Kept w1 W → Calls Try.prog 16 #[.pointer (some ⟨a, 0, none⟩), .pointer (some ⟨b, 0, none⟩)] W fun e w' => ∃ v, e = .returned v ∧ LO opE w' W.heap.size v SS ∧ Kept W w') := fun W hW => by
        rw [← hSS]
        exact script_is (fun b => b ∈ P) N W.heap.size a b W (gr_forest (hM1.keep hW) HT.out) (gr_num HT.out (by rw [HPN.out]; omega)) (List.mem_of_getElem? ha) (List.mem_of_getElem? hb) (Nat.le_refl _)
      have HSP : Hid (∀ W, Kept w1 W → Calls Try.prog 19 #[.pointer (some ⟨da, 0, none⟩), .pointer (some ⟨db, 0, none⟩)] W fun e w' => ∃ v, e = .returned v ∧ LO opE w' W.heap.size v SS ∧ Kept W w') := fun W hW => by
        have hMW := hM1.keep hW
        have hPF := gr_pfor hMW HT.out
        have hla : ra < P.length := by rw [HPN.out]; exact hra
        have hlb : r9 < P.length := by rw [HPN.out]; exact hrb
        have h9 := tw_script hMW HT.out hla hlb
        rw [atL_some ha, atL_some hb, atL_some hda, atL_some hdb, hSS] at h9
        have h := scriptP_is (fun d => d ∈ Q) X (rkX X) W hPF da (fun y => (fdP X y (rkX X da + 1) da).isSome) (fun id => findP_is (fun d => d ∈ Q) X (rkX X) W hPF (fun d hd => (tw_lens hMW HT.out d hd).2) id (rkX X da + 1) da (List.mem_of_getElem? hda) (Nat.lt_succ_self _)) (fun _ => rfl) (fun d hd => ⟨by
          obtain ⟨i9, hi9, he9, _⟩ := HT.out.ofQ hd
          have h8 := tw_script hMW HT.out hla hi9
          rw [atL_some ha, atL_some hda, ← he9] at h8
          rw [h8]
          have hF9 := gr_forest hMW HT.out
          have h1 := stp_len hF9 (nodeF N (walkL N a)) (N (atL P i9)).size (atL P i9) (atL_mem hi9) (Nat.le_refl _)
          have h2 := (hF9 _ (atL_mem hi9)).2.1.2.1
          omega, (tw_lens hMW HT.out d hd).2⟩) (rkX X db + 1) db (List.mem_of_getElem? hdb) (Nat.lt_succ_self _) W hPF
        rw [h9] at h
        exact h
      obtain ⟨rs, hrs⟩ : ∃ rs, ((wl N (N b).size [b] 0).map fun q => N q.2) = rs := ⟨_, rfl⟩
      have HRO : Hid (∀ W, Kept w1 W → Calls Try.prog 15 #[.pointer (some ⟨b, 0, none⟩)] W fun e w' => (∃ v, e = .returned v ∧ ROwn w' W.heap.size v rs) ∧ Kept W w') := fun W hW => by
        rw [← hrs]
        exact rowsF_is (fun b => b ∈ P) N W.heap.size b W (gr_forest (hM1.keep hW) HT.out) (List.mem_of_getElem? hb) (Nat.le_refl _)
      obtain ⟨LR, hLR⟩ : ∃ L, rs.length = L := ⟨_, rfl⟩
      have hLR4 : LR ≤ 4194304 ∧ 0 < LR := by
        have h3 := (hFz b (List.mem_of_getElem? hb)).2.1.2.1
        have h5 := wl_step hFz (List.mem_of_getElem? hb) [] 0
        refine ⟨?_, ?_⟩
        · rw [← hLR, ← hrs, List.length_map]
          have h2 := wl_len N (N b).size [b] 0
          omega
        · rw [← hLR, ← hrs, List.length_map]
          have e : sizeS N [b] = (N b).size := by simp [sizeS]
          rw [e] at h5
          rw [h5]
          simp
      have HLL : Hid (HH.length = LH ∧ SS.length = LS ∧ rs.length = LR) := ⟨hLH, hLS, hLR⟩
      have hLHI : (LH : Int) ≤ 4194305 := by omega
      have hLSI : (LS : Int) ≤ 4194304 := by omega
      have hLRI : (LR : Int) ≤ 4194304 := by omega
      have hLR0 : ((LR : Int) == 0) = false := by simp; omega
      have hLR0' : (0 : Int) < (LR : Int) := by omega
      clear hx hra2 hrb2 hM1 hFz ha hb hda hdb u1 u2 u3 u4 kA kB kC kD hHH hLH hSS hLS hrs hLR
      go_upto_region 11 with fail
      go_quiet ((go_at_call 7; exact Calls.quiet_of_same (HV0.out _)))
      obtain ⟨wq, hwq⟩ : ∃ wq, wr.drewN nq = wq := ⟨_, rfl⟩
      have hkq : Kept wr wq := by rw [← hwq]; exact drewN_kept _ _
      rw [hwq]
      have y1' := grown_cell hkq y1
      have t1' := grown_cell hkq t1
      have HKq := hide1 hkq
      clear hwq y1 y2 t0 t1 hkq nq
      go_upto_region 12 with fail
      go_quiet ((go_at_call 7; exact Calls.quiet_of_same (HV1.out _)))
      obtain ⟨wz, hwz⟩ : ∃ wz, wq.drewN nq = wz := ⟨_, rfl⟩
      have hkz : Kept wq wz := by rw [← hwz]; exact drewN_kept _ _
      rw [hwz]
      have HKZ : Hid (Kept wr wz) := gtrans HKq.out hkz
      have HK1Z : Hid (Kept w1 wz) := gtrans HKR.out HKZ.out
      clear hwz y1' t1' hkz nq HKq HV0 HV1
      obtain ⟨⟨c1, c2⟩, ⟨c3, c4⟩, c5, c6⟩ := HKC.out wz HK1Z.out
      go_wp2_with (go_at_call 15; refine (HRO.out wz HK1Z.out).mono ?_; rintro e w2 ⟨⟨q0, rfl, ho2⟩, hk2⟩; replace ho2 := ho2.lo; have HO2 := hide1 ho2; have HK2 := hide1 hk2; clear ho2 hk2)
      have HS2 : Hid (BkS w1 w2 hv ov wv xv L vH vO wH wO lh lo) := HS.out.keep (gtrans HKZ.out HK2.out)
      obtain ⟨b0, hb0⟩ : ∃ b0, wz.heap.size = b0 := ⟨_, rfl⟩
      rw [hb0] at HO2
      clear c1 c2 c3 c4 c5 c6 HS HKR HKZ HK1Z HK2 hb0
      refine wp_loop (BkI (some ⟨pg, po, none⟩) np pc gb w1 i ra r9 b0 q0 rs) (fun a' _ => 4 - (intOf (a'.tmps.getD 15 undef)).toNat) ?_ ?_
      · exact ⟨hv, ov, wv, xv, 0, L, vH, vO, wH, wO, lh, lo, bI_of _ (by kernel_rfl), by omega, by omega, HS2.out, HO2.out⟩
      · clear HS2 HO2 hL
        rintro a' wk ⟨hv, ov, wv, xv, k, L, vH, vO, wH, wO, lh, lo, ⟨T, rfl⟩, hk4, hL, HS, HQ⟩
        have HKW : Hid (Kept w1 wk) := HS.out.fo.kp
        by_cases hk : k < 4
        · have hkI : (k : Int) < 4 := by omega
          obtain ⟨⟨c1, c2⟩, ⟨c3, c4⟩, c5, c6⟩ := HKC.out wk HKW.out
          have k1 := kcell c1
          have k2 := kcell c2
          have kA := kcell c3
          have kB := kcell c4
          have kC := kcell c5
          have kD := kcell c6
          have hkr : Kept wk wk := Kept.refl wk
          clear c1 c2 c3 c4 c5 c6
          go_upto_region 17 with fail
          go_region_held3 (fun w' => Kept wk w') (first | assumption | exact Kept.refl _ | exact drew_kept _)
            ((go_at_call 9; refine (HLV.out _ (gtrans HKW.out (by first | exact drew_kept _ | exact Kept.refl _))).mono ?_; rintro e w5 ⟨v5, rfl, ho5, hk5⟩; obtain ⟨a5, c5, rfl⟩ := ho5.form; rw [HLL.out.1] at ho5 ⊢; have k5 : Kept wk w5 := gtrans (by first | exact drew_kept _ | exact Kept.refl _) hk5; have HO5 := hide1 ho5; clear ho5 hk5))
          have HK5 := hide1 k5
          have HO5' : Hid (LO hkE w5 wk.heap.size (.slice a5 LH c5) HH) := HO5.out.low (by first | exact Nat.le_refl _ | exact HK5.out.size)
          have q1 := kcell (k1 w5 k5)
          have q2 := kcell (k2 w5 k5)
          have qA := kcell (kA w5 k5)
          have qB := kcell (kB w5 k5)
          have qC := kcell (kC w5 k5)
          have qD := kcell (kD w5 k5)
          have hkr5 : Kept w5 w5 := Kept.refl w5
          clear k1 k2 kA kB kC kD k5 hkr HO5
          go_upto_region 18 with fail
          go_region_held3 (fun w' => Kept w5 w') (first | assumption | exact Kept.refl _ | exact drew_kept _)
            ((go_at_call 16; refine (HSC.out _ (gtrans HKW.out (gtrans HK5.out (by first | exact drew_kept _ | exact Kept.refl _)))).mono ?_; rintro e w6 ⟨v6, rfl, ho6, hk6⟩; obtain ⟨a6, c6, rfl⟩ := ho6.form; rw [HLL.out.2.1] at ho6 ⊢; have k6 : Kept w5 w6 := gtrans (by first | exact drew_kept _ | exact Kept.refl _) hk6; have HO6 := hide1 ho6; clear ho6 hk6))
          have HK6 := hide1 k6
          have HO6' : Hid (LO opE w6 wk.heap.size (.slice a6 LS c6) SS) := HO6.out.low (by first | exact HK5.out.size | exact Nat.le_trans HK5.out.size (Nat.le_refl _))
          have HO5b := hide1 (HO5'.out.keep k6)
          have k2 := kcell (q2 w6 k6)
          have kC := kcell (qC w6 k6)
          have kD := kcell (qD w6 k6)
          have hkr6 : Kept w6 w6 := Kept.refl w6
          clear q1 q2 qA qB qC qD k6 hkr5 HO6 HO5'
          go_upto_region 19 with fail
          go_region_held3 (fun w' => Kept w6 w') (first | assumption | exact Kept.refl _ | exact drew_kept _ | exact gtrans k10 (drew_kept _) | exact gtrans k9 (drew_kept _) | exact gtrans k8 (drew_kept _) | exact gtrans k7 (drew_kept _))
            ((first
              | (go_at_call 18; refine (HHU.out _ (gtrans HKW.out (gtrans HK5.out (gtrans HK6.out (by first | exact drew_kept _ | exact Kept.refl _))))).mono ?_; rintro e w7 ⟨v7, rfl, ho7, hk7⟩; obtain ⟨a7, c7, rfl⟩ := ho7.form; rw [HLL.out.1] at ho7 ⊢; have k7 : Kept w6 w7 := gtrans (by first | exact drew_kept _ | exact Kept.refl _) hk7; have HO7 := hide1 ho7; clear ho7 hk7)
              | (go_at_call 17; refine (sameHunks_is _ _ _ _ LH _ _ HH _ HLL.out.1 hLH4 (HO5b.out.keep (gtrans k7 (by first | exact drew_kept _ | exact Kept.refl _))) (HO7.out.keep (by first | exact drew_kept _ | exact Kept.refl _))).mono ?_; rintro e w8 ⟨rfl, hk8⟩; have k8 : Kept w6 w8 := gtrans k7 (gtrans (by first | exact drew_kept _ | exact Kept.refl _) hk8); clear hk8)
              | (go_at_call 19; refine (HSP.out _ (gtrans HKW.out (gtrans HK5.out (gtrans HK6.out (gtrans k8 (by first | exact drew_kept _ | exact Kept.refl _)))))).mono ?_; rintro e w9 ⟨v9, rfl, ho9, hk9⟩; obtain ⟨a9, c9, rfl⟩ := ho9.form; rw [HLL.out.2.1] at ho9 ⊢; have k9 : Kept w6 w9 := gtrans k8 (gtrans (by first | exact drew_kept _ | exact Kept.refl _) hk9); have HO9 := hide1 ho9; clear ho9 hk9)
              | (go_at_call 13; refine (sameOps_is _ _ _ _ LS _ _ SS _ HLL.out.2.1 hLS4 (HO6'.out.keep (gtrans k9 (by first | exact drew_kept _ | exact Kept.refl _))) (HO9.out.keep (by first | exact drew_kept _ | exact Kept.refl _))).mono ?_; rintro e w10 ⟨rfl, hk10⟩; have k10 : Kept w6 w10 := gtrans k9 (gtrans (by first | exact drew_kept _ | exact Kept.refl _) hk10); clear hk10)))
          have HK10 := hide1 k10
          have HKK : Hid (Kept wk w10) := gtrans HK5.out (gtrans HK6.out HK10.out)
          have HOH : Hid (LO hkE w10 wk.heap.size (.slice a5 LH c5) HH) := HO5b.out.keep HK10.out
          have HOO : Hid (LO opE w10 wk.heap.size (.slice a6 LS c6) SS) := HO6'.out.keep HK10.out
          have HS10 : Hid (BkS w1 w10 hv ov wv xv L vH vO wH wO lh lo) := HS.out.keep HKK.out
          have HQ10 : Hid (LO rwE w10 b0 q0 rs) := HQ.out.keep HKK.out
          clear k2 kC kD k7 k8 k9 k10 hkr6 HO7 HO9 HO5b HO6' HK5 HK6 HK10
          by_cases hk1 : k = 1
          · have hkq1 : ((k : Int) == 1) = true := by rw [hk1]; rfl
            clear hk1
            go_wp2_with (go_at_call 20; refine (overwritten_is a5 a6 LH c5 LS c6 _ _ HH SS w10 hLH4 (by omega) HOH.out HOO.out).mono ?_; rintro e w11 ⟨rfl, hk11⟩; have HK11 := hide1 hk11; clear hk11)
            have HHI : Hid (∀ d, ((Value.slice a5 LH c5).ownBlock = some d ∨ (Value.slice a6 LS c6).ownBlock = some d) → wk.heap.size ≤ d) := fun d hd => hd.elim (fun e => (HOH.out.lt' d e).1) (fun e => (HOO.out.lt' d e).1)
            refine ⟨⟨hv, ov, wv, xv, k + 1, L, vH, vO, wH, wO, lh, lo, bI_of _ (by kernel_rfl), by omega, by omega, ⟨HS.out.fo.high HKK.out HK11.out HHI.out, HS.out.ll, HS.out.e1, HS.out.e2, HS.out.sz⟩, HQ10.out.same (fun d hd => HK11.out.2.2.2.2 d (HQ10.out.lt' d hd).2 (fun e => by have h1 := HHI.out d e; have h2 := (HQ.out.lt' d hd).2; omega))⟩, ?_⟩
            show 4 - (intOf (.int .i64 ((k : Int) + 1))).toNat < 4 - (intOf (.int .i64 (k : Int))).toNat
            simp [intOf] <;> omega
          · have hkq1 : ((k : Int) == 1) = false := by simp; omega
            clear hk1
            have HF0 := hide1 HS10.out.fo
            have HLN := hide1 HS.out.ll
            have hLb : L ≤ 52 := by omega
            have HSZ1 : Hid (w1.heap.size ≤ wk.heap.size) := HKW.out.size
            have HOH1 : Hid (LO hkE w10 w1.heap.size (.slice a5 LH c5) HH) := HOH.out.low HSZ1.out
            have HOO1 : Hid (LO opE w10 w1.heap.size (.slice a6 LS c6) SS) := HOO.out.low HSZ1.out
            go_upto_region 24 with (at_builtin; refine wpl_lo (E := hlE) rfl _ _ rfl w1.heap.size hv vH L HLN.out.1 (by rfl) (HF0.out.cH.ls.keep ((Kept.refl w10).alloc _ _)) w10.heap.size (a5, LH, c5) (by rfl) (World.alloc_heap_new w10 _) (by show (L + 1) * 24 ≤ 140737488355328; omega) (by unfold maxLen; omega) (Nat.le_trans HF0.out.kp.size (alloc_le w10 _)) ?_; intro gA cA wA hoA hgA horA hlA; have HFA := hide1 (HF0.out.addH ((Kept.refl w10).alloc _ _) hoA hgA horA HOH1.out); have HA2 := hide1 (lo_oth HOH1.out (HF0.out.cH.ls.keep ((Kept.refl w10).alloc _ _)) (by decide) ((Kept.refl w10).alloc _ _) hgA); have HA3 := hide1 (lo_oth HOO1.out (HF0.out.cH.ls.keep ((Kept.refl w10).alloc _ _)) (by decide) ((Kept.refl w10).alloc _ _) hgA); have HA4 := hide1 (lo_oth HQ10.out (HF0.out.cH.ls.keep ((Kept.refl w10).alloc _ _)) (by decide) ((Kept.refl w10).alloc _ _) hgA); clear hoA hgA horA hlA)
            go_upto_region 25 with (at_builtin; refine wpl_lo (E := olE) rfl _ _ rfl w1.heap.size ov vO L HLN.out.2.1 (by rfl) (HFA.out.cO.ls.keep ((Kept.refl wA).alloc _ _)) wA.heap.size (a6, LS, c6) (by rfl) (World.alloc_heap_new wA _) (by show (L + 1) * 24 ≤ 140737488355328; omega) (by unfold maxLen; omega) (Nat.le_trans HFA.out.kp.size (alloc_le wA _)) ?_; intro gB cB wB hoB hgB horB hlB; have HFB := hide1 (HFA.out.addO ((Kept.refl wA).alloc _ _) hoB hgB horB HA3.out); have HB2 := hide1 (lo_oth HA2.out (HFA.out.cO.ls.keep ((Kept.refl wA).alloc _ _)) (by decide) ((Kept.refl wA).alloc _ _) hgB); have HB3 := hide1 (lo_oth HA3.out (HFA.out.cO.ls.keep ((Kept.refl wA).alloc _ _)) (by decide) ((Kept.refl wA).alloc _ _) hgB); have HB4 := hide1 (lo_oth HA4.out (HFA.out.cO.ls.keep ((Kept.refl wA).alloc _ _)) (by decide) ((Kept.refl wA).alloc _ _) hgB); clear hoB hgB horB hlB)
            have HEB : Hid (LO hkE (wB.alloc (.cells #[] 47)) w1.heap.size (.slice (some ⟨wB.heap.size, 0, none⟩) 0 0) []) := lo_emptyE wB HFB.out.kp.size
            go_upto_region 26 with (first
              | (at_builtin; have _g := HEB; clear _g; refine wpl_many (E := hkE) rfl _ _ rfl w1.heap.size (.slice (some ⟨wB.heap.size, 0, none⟩) 0 0) [] HH 0 LH LH rfl HLL.out.1 (Nat.zero_add LH) (by rfl) HEB.out a5 c5 (by rfl) ((HB2.out.keep ((Kept.refl wB).alloc _ _)).src) (by show LH * 32 ≤ 140737488355328; omega) (by unfold maxLen; omega) (Nat.le_trans HFB.out.kp.size (alloc_le wB _)) ?_; intro aC cC wC hoC hgC horC; have hkC : Kept wB wC := kept_new hgC; have HKC2 := hide1 hkC; have HOC := hide1 hoC; clear hoC hgC horC hkC HEB)
              | (at_builtin; have _g := HOC; clear _g; refine wpl_lo (E := hlE) rfl _ _ rfl w1.heap.size wv wH L HLN.out.2.2.1 (by rfl) ((HFB.out.cW.ls.keep HKC2.out).keep ((Kept.refl wC).alloc _ _)) wC.heap.size (aC, LH, cC) (by rfl) (World.alloc_heap_new wC _) (by show (L + 1) * 24 ≤ 140737488355328; omega) (by unfold maxLen; omega) (Nat.le_trans HFB.out.kp.size (Nat.le_trans HKC2.out.size (alloc_le wC _))) ?_; intro gD cD wD hoD hgD horD hlD; have HFC := hide1 (HFB.out.keep HKC2.out); have HFD := hide1 (HFC.out.addW ((Kept.refl wC).alloc _ _) hoD hgD horD HOC.out); have HD3 := hide1 (lo_oth (HB3.out.keep HKC2.out) (HFC.out.cW.ls.keep ((Kept.refl wC).alloc _ _)) (by decide) ((Kept.refl wC).alloc _ _) hgD); have HD4 := hide1 (lo_oth (HB4.out.keep HKC2.out) (HFC.out.cW.ls.keep ((Kept.refl wC).alloc _ _)) (by decide) ((Kept.refl wC).alloc _ _) hgD); clear hoD hgD horD hlD HOC))
            have HED : Hid (LO opE (wD.alloc (.cells #[] 56)) w1.heap.size (.slice (some ⟨wD.heap.size, 0, none⟩) 0 0) []) := lo_emptyE wD HFD.out.kp.size
            go_wp2_with (first
              | (at_builtin; have _g := HED; clear _g; refine wpl_many (E := opE) rfl _ _ rfl w1.heap.size (.slice (some ⟨wD.heap.size, 0, none⟩) 0 0) [] SS 0 LS LS rfl HLL.out.2.1 (Nat.zero_add LS) (by rfl) HED.out a6 c6 (by rfl) ((HD3.out.keep ((Kept.refl wD).alloc _ _)).src) (by show LS * 72 ≤ 140737488355328; omega) (by unfold maxLen; omega) (Nat.le_trans HFD.out.kp.size (alloc_le wD _)) ?_; intro aE cE wE hoE hgE horE; have hkE2 : Kept wD wE := kept_new hgE; have HKE2 := hide1 hkE2; have HOE := hide1 hoE; clear hoE hgE horE hkE2 HED)
              | (at_builtin; have _g := HOE; clear _g; refine wpl_lo (E := olE) rfl _ _ rfl w1.heap.size xv wO L HLN.out.2.2.2 (by rfl) ((HFD.out.cX.ls.keep HKE2.out).keep ((Kept.refl wE).alloc _ _)) wE.heap.size (aE, LS, cE) (by rfl) (World.alloc_heap_new wE _) (by show (L + 1) * 24 ≤ 140737488355328; omega) (by unfold maxLen; omega) (Nat.le_trans HFD.out.kp.size (Nat.le_trans HKE2.out.size (alloc_le wE _))) ?_; intro gG cG wG hoG hgG horG hlG; have HFE := hide1 (HFD.out.keep HKE2.out); have HFG := hide1 (HFE.out.addX ((Kept.refl wE).alloc _ _) hoG hgG horG HOE.out); have HG4 := hide1 (lo_oth (HD4.out.keep HKE2.out) (HFE.out.cX.ls.keep ((Kept.refl wE).alloc _ _)) (by decide) ((Kept.refl wE).alloc _ _) hgG); clear hoG hgG horG hlG HOE))
            refine ⟨⟨_, _, _, _, k + 1, L + 1, vH ++ [(a5, LH, c5)], vO ++ [(a6, LS, c6)], wH ++ [(aC, LH, cC)], wO ++ [(aE, LS, cE)], updF lh L HH, updF lo L SS, bI_of _ (by kernel_rfl), by omega, by omega, bk_more HS.out HKK.out HOH.out HOO.out (by have := HLL.out.1; omega) (by have := HLL.out.2.1; omega) HFG.out, HG4.out⟩, ?_⟩
            show 4 - (intOf (.int .i64 ((k : Int) + 1))).toNat < 4 - (intOf (.int .i64 (k : Int))).toNat
            simp [intOf] <;> omega
        · obtain rfl : k = 4 := by omega
          have hkI : ¬ ((4 : Nat) : Int) < 4 := by omega
          obtain ⟨⟨c1, c2⟩, ⟨c3, c4⟩, c5, c6⟩ := HKC.out wk HKW.out
          obtain ⟨qa, qc, rfl⟩ : ∃ x c, q0 = .slice x LR c := by rw [← HLL.out.2.2]; exact HQ.out.form
          go_upto_region 28 with (go_at_call 15; refine (HRO.out wk HKW.out).mono ?_; rintro e w3 ⟨⟨q3, rfl, ho3⟩, hk3⟩; replace ho3 := ho3.lo; have HO3 := hide1 ho3; have HK3 := hide1 hk3; clear ho3 hk3)
          obtain ⟨sa, sc, rfl⟩ : ∃ x c, q3 = .slice x LR c := by rw [← HLL.out.2.2]; exact HO3.out.form
          have HQ3 := hide1 (HQ.out.keep HK3.out)
          obtain ⟨r0, hr0⟩ : ∃ r, rs[0]? = some r := ⟨_, List.getElem?_eq_getElem (by rw [HLL.out.2.2]; exact hLR4.2)⟩
          obtain ⟨gq, rfl, _, _, _, _, _, m5⟩ := lo_row HQ3.out hr0
          obtain ⟨gs, rfl, _, _, _, _, _, n5⟩ := lo_row HO3.out hr0
          have km := kcell m5
          have kn := kcell n5
          have hkr3 : Kept w3 w3 := Kept.refl w3
          clear c1 c2 c3 c4 c5 c6 m5 n5 hr0
          go_region_held3 (fun w' => Kept w3 w') (first | assumption | exact Kept.refl _ | exact drew_kept _ | exact gtrans k4 (drew_kept _))
            ((go_at_call 21; refine (rowsD_is _ _ _ _ LR _ _ rs rs _ HLL.out.2.2 HLL.out.2.2 hLR4.1 (HQ3.out.keep (by first | exact drew_kept _ | exact Kept.refl _)) (HO3.out.keep (by first | exact drew_kept _ | exact Kept.refl _)) (fun i x y hx hy => by rw [hx] at hy; injection hy with hy; subst hy; exact ⟨rfl, rfl, rfl, rfl, rfl⟩)).mono ?_; rintro e w4 ⟨rfl, hk4'⟩; have k4 : Kept w3 w4 := gtrans (by first | exact drew_kept _ | exact Kept.refl _) hk4'; clear hk4'))
          have HS4 : Hid (BkS w1 w4 hv ov wv xv L vH vO wH wO lh lo) := HS.out.keep (gtrans HK3.out k4)
          clear km kn k4 hkr3
          go_wp2_with fail
          refine ⟨⟨hv, ov, wv, xv, i + 1, L, vH, vO, wH, wO, lh, lo, bO_of _ (by kernel_rfl), by omega, by omega, by omega, HS4.out⟩, ?_⟩
          show 12 - (intOf (.int .i64 ((i : Int) + 1))).toNat < 12 - (intOf (.int .i64 (i : Int))).toNat
          simp [intOf] <;> omega
    · obtain ⟨l1, l2, l3, l4⟩ := HS.out.ll
      obtain ⟨hA, hC, rfl⟩ : ∃ x c, hv = .slice x L c := by rw [← l1]; exact HS.out.fo.cH.ls.form
      obtain ⟨oA, oC, rfl⟩ : ∃ x c, ov = .slice x L c := by rw [← l2]; exact HS.out.fo.cO.ls.form
      obtain ⟨wA, wC, rfl⟩ : ∃ x c, wv = .slice x L c := by rw [← l3]; exact HS.out.fo.cW.ls.form
      obtain ⟨xA, xC, rfl⟩ : ∃ x c, xv = .slice x L c := by rw [← l4]; exact HS.out.fo.cX.ls.form
      have HLN : Hid (vH.length = L ∧ vO.length = L ∧ wH.length = L ∧ wO.length = L) := ⟨l1, l2, l3, l4⟩
      have hLb : L ≤ 48 := by omega
      have hLI : (L : Int) ≤ 48 := by omega
      have hc : ((i : Int) < (np : Int) ∧ (i : Int) < 12 ∧ ¬ (0 : Int) < (pn : Int)) ∨ ((i : Int) < (np : Int) ∧ ¬ (i : Int) < 12) ∨ ¬ (i : Int) < (np : Int) := by omega
      clear hgo l1 l2 l3 l4
      rcases hc with ⟨h4, h5, h6⟩ | ⟨h4, h5⟩ | h4
      all_goals
        go_wp2_with fail
        refine wp_loop (BkT pa np pc gb wr (.slice hA L hC) (.slice oA L oC) (.slice wA L wC) (.slice xA L xC) L) (fun a' _ => L - (intOf (a'.tmps.getD 19 undef)).toNat) ?_ ?_
        · exact ⟨0, bT_of _ (by kernel_rfl), Nat.zero_le _, Kept.refl wr⟩
        · rintro a' wt ⟨u, ⟨T, rfl⟩, hu, HKT⟩
          have HST := hide1 (HS.out.keep HKT.out)
          by_cases huL : u < L
          · obtain ⟨⟨ah, nh, ch⟩, hxh⟩ : ∃ x, vH[u]? = some x := ⟨_, List.getElem?_eq_getElem (by rw [HLN.out.1]; exact huL)⟩
            obtain ⟨⟨ao, no, co⟩, hxo⟩ : ∃ x, vO[u]? = some x := ⟨_, List.getElem?_eq_getElem (by rw [HLN.out.2.1]; exact huL)⟩
            obtain ⟨⟨aw, nw, cw⟩, hxw⟩ : ∃ x, wH[u]? = some x := ⟨_, List.getElem?_eq_getElem (by rw [HLN.out.2.2.1]; exact huL)⟩
            obtain ⟨⟨ax, nx, cx⟩, hxx⟩ : ∃ x, wO[u]? = some x := ⟨_, List.getElem?_eq_getElem (by rw [HLN.out.2.2.2]; exact huL)⟩
            have eh := HST.out.fo.cH.en u _ hxh
            have eo := HST.out.fo.cO.en u _ hxo
            have ew := HST.out.fo.cW.en u _ hxw
            have ex := HST.out.fo.cX.en u _ hxx
            unfold val at eh eo ew ex
            dsimp only at eh eo ew ex
            have mh := lo_lens eh
            have mo := lo_lens eo
            have mw := lo_lens ew
            have mx := lo_lens ex
            obtain rfl : nw = nh := by omega
            obtain rfl : nx = no := by omega
            obtain ⟨gH, rfl, s1⟩ := lo_sl HST.out.fo.cH.ls rfl rfl hxh
            obtain ⟨gO, rfl, s2⟩ := lo_sl HST.out.fo.cO.ls rfl rfl hxo
            obtain ⟨gW, rfl, s3⟩ := lo_sl HST.out.fo.cW.ls rfl rfl hxw
            obtain ⟨gX, rfl, s4⟩ := lo_sl HST.out.fo.cX.ls rfl rfl hxx
            dsimp only at s1 s2 s3 s4
            have hszu := HS.out.sz u
            rw [mh, mo] at hszu
            have huI : (u : Int) < (L : Int) := by omega
            have t1 := kcell s1
            have t2 := kcell s2
            have t3 := kcell s3
            have t4 := kcell s4
            have HEH := hide1 eh
            have HEO := hide1 eo
            have HEW := hide1 ew
            have HEX := hide1 ex
            have HMH := hide1 mh
            have HMO := hide1 mo
            have hkr : Kept wt wt := Kept.refl wt
            clear eh eo ew ex mh mo mw mx s1 s2 s3 s4 hxh hxo hxw hxx HST
            go_upto_region 33 with fail
            go_region_held3 (fun w' => Kept wt w') (first | assumption | exact Kept.refl _ | exact drew_kept _ | exact gtrans k6 (drew_kept _) | exact gtrans k5 (drew_kept _))
              ((first
                | (go_at_call 17; refine (sameHunks_is _ _ _ _ _ _ _ (lh u) _ HMH.out hszu.1 (HEH.out.keep (by first | exact drew_kept _ | exact Kept.refl _)) (HEW.out.keep (by first | exact drew_kept _ | exact Kept.refl _))).mono ?_; rintro e w5 ⟨rfl, hk5⟩; have k5 : Kept wt w5 := gtrans (by first | exact drew_kept _ | exact Kept.refl _) hk5; clear hk5)
                | (go_at_call 13; refine (sameOps_is _ _ _ _ _ _ _ (lo u) _ HMO.out hszu.2 (HEO.out.keep (gtrans k5 (by first | exact drew_kept _ | exact Kept.refl _))) (HEX.out.keep (gtrans k5 (by first | exact drew_kept _ | exact Kept.refl _)))).mono ?_; rintro e w6 ⟨rfl, hk6⟩; have k6 : Kept wt w6 := gtrans k5 (gtrans (by first | exact drew_kept _ | exact Kept.refl _) hk6); clear hk6)))
            have HK6 : Hid (Kept wr w6) := gtrans HKT.out k6
            clear t1 t2 t3 t4 k5 k6 hkr
            go_wp2_with fail
            refine ⟨⟨u + 1, bT_of _ (by kernel_rfl), by omega, HK6.out⟩, ?_⟩
            show L - (intOf (.int .i64 ((u : Int) + 1))).toNat < L - (intOf (.int .i64 (u : Int))).toNat
            simp [intOf] <;> omega
          · obtain rfl : u = L := by omega
            have huI : ¬ (u : Int) < (u : Int) := by omega
            have hsz1 := HST.out.fo.kp.size
            have HKA : Hid (Kept w wt) := gtrans HK1.out HST.out.fo.kp
            have hw1 := HK1.out.size
            have HGH : Hid (Calls Try.prog 22 #[.slice hA u hC] wt fun e w' => e = .returned (.bool true) ∧ KT (InB vH) wt w') := by
              by_cases hz : u = 0
              · subst hz
                exact (grH_nil hA hC wt).mono fun e w' h => ⟨h.1, by rw [h.2]; exact (Kept.refl wt).kt _⟩
              · obtain ⟨gH, rfl⟩ := HST.out.fo.cH.ls.some (by intro e; have := HLN.out.1; rw [e] at this; simp at this; omega)
                refine grH_is vH gH u hC w1.heap.size (fun v => (lh v).map toHI) wt HLN.out.1 (by omega) HST.out.fo.cH.ls (fun v x hx => lo_hi ((HST.out.fo.cH.en v x hx).low (Nat.zero_le _))) HST.out.e1 (fun v x hx => ?_)
                have h1 := lo_lens (show LO hkE wt w1.heap.size (.slice x.1 x.2.1 x.2.2) (lh v) from HST.out.fo.cH.en v x hx)
                rw [← h1]
                exact (HST.out.sz v).1
            have HGO : Hid (∀ W, KT (InB vH) wt W → Calls Try.prog 23 #[.slice oA u oC] W fun e w' => e = .returned (.bool true) ∧ KT (InB vO) W w') := fun W hW => by
              have hin : ∀ {α : Type} {E : ElK α} {b : Nat} {v : Value} {l : List α}, LO E wt b v l → E.T ≠ hkE.T → LO E W b v l := fun {α E b v l} h hT => h.same (fun d hd => hW.2.2.2.2 d (h.lt' d hd).2 (fun e => by
                obtain ⟨z, x, hx, hxd⟩ := e
                exact lo_ne h (HST.out.fo.cH.en z x hx) hT hd hxd))
              by_cases hz : u = 0
              · subst hz
                exact (grO_nil oA oC W).mono fun e w' h => ⟨h.1, by rw [h.2]; exact (Kept.refl W).kt _⟩
              · obtain ⟨gO, rfl⟩ := HST.out.fo.cO.ls.some (by intro e; have := HLN.out.2.1; rw [e] at this; simp at this; omega)
                refine grO_is vO gO u oC w1.heap.size lo W HLN.out.2.1 (by omega) (hin HST.out.fo.cO.ls (by decide)) (fun v x hx => (hin (HST.out.fo.cO.en v x hx) (by decide)).low (Nat.zero_le _)) HST.out.e2 (fun v x hx => ?_)
                have h1 := lo_lens (show LO opE wt w1.heap.size (.slice x.1 x.2.1 x.2.2) (lo v) from HST.out.fo.cO.en v x hx)
                rw [← h1]
                have := (HST.out.sz v).2
                omega
            have HB1 : Hid (∀ d, InB vH d → w1.heap.size ≤ d) := fun d hd => by
              obtain ⟨z, x, hx, hxd⟩ := hd
              exact ((HST.out.fo.cH.en z x hx).lt' d hxd).1
            have HB2 : Hid (∀ d, InB vO d → w1.heap.size ≤ d) := fun d hd => by
              obtain ⟨z, x, hx, hxd⟩ := hd
              exact ((HST.out.fo.cO.en z x hx).lt' d hxd).1
            clear HST
            go_wp2_with (first
              | (go_at_call 22; refine HGH.out.mono ?_; rintro e wU ⟨rfl, hkU⟩; have HKU := hide1 hkU; clear hkU)
              | (go_at_call 23; refine (HGO.out _ HKU.out).mono ?_; rintro e wV ⟨rfl, hkV⟩; have HKV := hide1 hkV; clear hkV))
            go_ret
            refine ⟨rfl, ?_⟩
            have f1 := HKU.out
            have f2 := HKV.out
            have f0 := HKA.out
            have z1 := f0.size
            refine ⟨(f2.1.trans f1.1).trans f0.1, (f2.2.1.trans f1.2.1).trans f0.2.1, (f2.2.2.1.trans f1.2.2.1).trans f0.2.2.1, Nat.le_trans z1 (Nat.le_trans f1.2.2.2.1 f2.2.2.2.1), fun k hk => ?_⟩
            have z2 := f1.2.2.2.1
            refine (f2.2.2.2.2 k (by omega) (fun e => by have := HB2.out k e; omega)).trans ((f1.2.2.2.2 k (by omega) (fun e => by have := HB1.out k e; omega)).trans (f0.2.2.2.2 k hk))

end Tr
end Ex
end Go.Proofs.Ytkkilkojmdeopaa
namespace Go.Proofs.Ytkkilkojmdeopaa
open Go.ChangeShapes Go.WideShapes Go.ChangeAt Go.RowKit
set_option linter.unusedVariables false
namespace Ex
namespace Tr
namespace Fw

set_option maxRecDepth 100000 in
theorem lifted (os : Os) (started : os.Started) (H : Type) (enc : TypeId × Value → H) :
    ReturnsInHanded {} Try.checked os 5 .any (Rows.deltaBookSpec.pre6 enc Try.prog Try.f5 Rows.deltaBookRow.domain false) (Rows.deltaBookSpec.post enc Try.prog Try.f5 false true false false) := by
  refine returnsInHanded_of_change_sized (C := Try.checked) ownD started (by kernel_rfl) Try.func5
    (ChangeSpec.witness6 (enc := enc) (C := Try.checked) false ⟨#[], #[.slice none 0 0, .slice none 0 0], []⟩ 8 (by kernel_rfl) (by kernel_rfl) (by kernel_rfl) (by kernel_rfl)) ?_
  intro W base args ds gs before hval0 hW hcnd hsz _
  have hval : ∀ (j : Nat) t v, Try.f5.params[j]? = some t → args[j]? = some v → Value.okWide Try.prog W .any base t v := hval0
  have hW' := hW
  obtain ⟨p, q, hA0, hV, rfl, hfz, hnd⟩ := hW
  have hA : DataW.TrodAll enc Try.prog W 0 (fun _ => true) true Try.f5.params.toList args.toList ds p := hA0
  rw [Try.params5] at hA hval
  obtain ⟨v0, vs0, d0, ds0, p0, q0, hargs, rfl, rfl, h0, r0⟩ := trodAll_cons hA
  obtain ⟨v1, vs1, d1, ds1, p1, q1, rfl, rfl, rfl, h1, r1⟩ := trodAll_cons r0
  obtain ⟨rfl, rfl, rfl⟩ := trodAll_nil r1
  obtain rfl : args = #[v0, v1] := by cases args; simp_all
  obtain ⟨rfl, rfl⟩ := trodVars_none hV
  have s0 := okWide_slice Try.underlying22 (hval 0 22 v0 rfl rfl)
  have s1 := okWide_slice Try.underlying23 (hval 1 23 v1 rfl rfl)
  have k0 := h0
  have k1 := h1
  have lt0 : ∀ x ∈ p0, x.block < W.heap.size := by obtain ⟨m, hm⟩ := k0; exact DataW.trod_lt m _ _ _ hm
  have lt1 : ∀ x ∈ p1, x.block < W.heap.size := by obtain ⟨m, hm⟩ := k1; exact DataW.trod_lt m _ _ _ hm
  have wt0 : ∀ n ∈ d0.weights Try.prog 22, n ≤ reachBytes := fun n hn => by
    have := List.all_eq_true.1 hsz n (DataW.weights_mem_each (j := 0) (by rfl) (by rfl) n hn)
    simpa using this
  have wt1 : ∀ n ∈ d1.weights Try.prog 23, n ≤ reachBytes := fun n hn => by
    have := List.all_eq_true.1 hsz n (DataW.weights_mem_each (j := 1) (by rfl) (by rfl) n hn)
    simpa using this
  obtain ⟨l0, x0⟩ := parts_arg s0 k0 wt0
  obtain ⟨ps, x1⟩ := pairs_arg s1 k1 wt1
  clear hA0 hval0
  refine Calls.mono (R := fun e w' => e = .returned (.bool true) ∧ Below W.heap.size W w') ((lawBook v0 v1 ps W (grove_is v0 l0 W x0) x1).mono fun _ _ h => ⟨h.1, h.2.below⟩) fun e W' ⟨he, bel⟩ => ?_
  subst he
  exact ⟨_, rfl, _, _, _, [], _, [], hW', trodAll_mk1 (shut_bool Try.underlying4 _), (trodAll_cons_mk (Below.trod laidOutD (by kernel_rfl) (of_decide_eq_true (by kernel_rfl)) k0 bel lt0) (trodAll_cons_mk (Below.trod laidOutD (by kernel_rfl) (of_decide_eq_true (by kernel_rfl)) k1 bel lt1) trodAll_mk0)), rfl, bel.frame _, fun h => by cases h⟩

theorem over : Rows.deltaBookRow.holds Try.pinned (OpenSpec.ofChange Rows.deltaBookSpec) :=
  OpenClaim.holds_of_wide 5 Try.f5 rfl rfl rfl rfl rfl rfl rfl ⟨rfl, rfl, rfl, rfl, rfl⟩ rfl rfl rfl rfl rfl (by kernel_rfl) Try.func5 (by kernel_rfl)
    (of_decide_eq_true (by kernel_rfl)) (by unfold Func.isWrapper; first | (rw [if_pos (by decide +kernel)]; kernel_rfl) | (rw [if_neg (by decide +kernel)]; exact ⟨rfl, rfl⟩))
    (fun os started H enc _ => lifted os started H enc)

end Fw
end Tr
end Ex
theorem deltaBook_holds : Rows.DeltaBookSaid := Ex.Tr.Fw.over
#print axioms deltaBook_holds
end Go.Proofs.Ytkkilkojmdeopaa
