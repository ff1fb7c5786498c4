import Derived.Test.YtkkilkojmdeopaaMDeLq
import Derived.Test.YtkkilkojmdeopaaMDeLl
import Derived.Test.YtkkilkojmdeopaaMDeGr
namespace Go.Proofs.Ytkkilkojmdeopaa
open Go.RowKit
attribute [local go_sem] Oper.semAt_some
namespace Ex
namespace Tr
attribute [local simp] wide_fn wide_depth

set_option maxRecDepth 100000 in
def PF (va : Option Addr) (np vc gb i : Nat) (ds : List Deferred) (a : Act) : Prop := ∃ T : Nat → Value, a = { tmps := List.toArray (T 0 :: (.slice va np vc) :: T 2 :: T 3 :: (.bool false) :: (.pointer (some ⟨gb, 0, none⟩)) :: (.bool true) :: (.int .i64 (i : Int)) :: T 8 :: T 9 :: T 10 :: T 11 :: T 12 :: T 13 :: T 14 :: T 15 :: T 16 :: T 17 :: T 18 :: T 19 :: T 20 :: T 21 :: T 22 :: T 23 :: T 24 :: T 25 :: T 26 :: T 27 :: T 28 :: T 29 :: T 30 :: T 31 :: T 32 :: T 33 :: T 34 :: T 35 :: T 36 :: T 37 :: T 38 :: T 39 :: T 40 :: T 41 :: T 42 :: T 43 :: T 44 :: T 45 :: T 46 :: T 47 :: T 48 :: T 49 :: T 50 :: T 51 :: T 52 :: T 53 :: T 54 :: T 55 :: T 56 :: T 57 :: T 58 :: T 59 :: T 60 :: T 61 :: T 62 :: T 63 :: T 64 :: T 65 :: T 66 :: T 67 :: T 68 :: T 69 :: T 70 :: T 71 :: T 72 :: T 73 :: T 74 :: T 75 :: T 76 :: T 77 :: T 78 :: T 79 :: T 80 :: T 81 :: T 82 :: T 83 :: T 84 :: T 85 :: T 86 :: T 87 :: T 88 :: T 89 :: T 90 :: T 91 :: T 92 :: T 93 :: T 94 :: T 95 :: T 96 :: T 97 :: T 98 :: T 99 :: T 100 :: T 101 :: T 102 :: T 103 :: T 104 :: T 105 :: T 106 :: T 107 :: T 108 :: T 109 :: T 110 :: T 111 :: T 112 :: T 113 :: T 114 :: T 115 :: T 116 :: T 117 :: T 118 :: T 119 :: T 120 :: T 121 :: T 122 :: T 123 :: T 124 :: T 125 :: T 126 :: T 127 :: T 128 :: T 129 :: T 130 :: T 131 :: T 132 :: T 133 :: T 134 :: T 135 :: T 136 :: T 137 :: T 138 :: T 139 :: T 140 :: T 141 :: T 142 :: T 143 :: T 144 :: T 145 :: T 146 :: T 147 :: T 148 :: T 149 :: T 150 :: T 151 :: T 152 :: T 153 :: T 154 :: T 155 :: T 156 :: T 157 :: T 158 :: T 159 :: T 160 :: T 161 :: T 162 :: T 163 :: T 164 :: T 165 :: T 166 :: T 167 :: T 168 :: T 169 :: T 170 :: T 171 :: T 172 :: T 173 :: T 174 :: T 175 :: T 176 :: T 177 :: T 178 :: T 179 :: T 180 :: T 181 :: T 182 :: T 183 :: T 184 :: T 185 :: T 186 :: T 187 :: T 188 :: T 189 :: T 190 :: T 191 :: T 192 :: T 193 :: T 194 :: T 195 :: T 196 :: T 197 :: T 198 :: T 199 :: T 200 :: T 201 :: T 202 :: T 203 :: T 204 :: T 205 :: T 206 :: T 207 :: T 208 :: T 209 :: T 210 :: T 211 :: T 212 :: T 213 :: T 214 :: T 215 :: T 216 :: T 217 :: T 218 :: T 219 :: T 220 :: T 221 :: T 222 :: T 223 :: T 224 :: T 225 :: T 226 :: T 227 :: T 228 :: T 229 :: T 230 :: T 231 :: T 232 :: T 233 :: T 234 :: T 235 :: T 236 :: T 237 :: T 238 :: T 239 :: T 240 :: T 241 :: T 242 :: T 243 :: T 244 :: T 245 :: T 246 :: T 247 :: T 248 :: T 249 :: T 250 :: T 251 :: T 252 :: T 253 :: T 254 :: T 255 :: T 256 :: T 257 :: T 258 :: T 259 :: T 260 :: T 261 :: T 262 :: T 263 :: T 264 :: T 265 :: T 266 :: T 267 :: T 268 :: T 269 :: T 270 :: T 271 :: T 272 :: T 273 :: T 274 :: T 275 :: T 276 :: T 277 :: []), defers := ds }
set_option maxRecDepth 100000 in
theorem pF_of {va : Option Addr} {np vc gb i : Nat} {ds : List Deferred} (L : List Value) (h : L = nthV L 0 :: (.slice va np vc) :: nthV L 2 :: nthV L 3 :: (.bool false) :: (.pointer (some ⟨gb, 0, none⟩)) :: (.bool true) :: (.int .i64 (i : Int)) :: nthV L 8 :: nthV L 9 :: nthV L 10 :: nthV L 11 :: nthV L 12 :: nthV L 13 :: nthV L 14 :: nthV L 15 :: nthV L 16 :: nthV L 17 :: nthV L 18 :: nthV L 19 :: nthV L 20 :: nthV L 21 :: nthV L 22 :: nthV L 23 :: nthV L 24 :: nthV L 25 :: nthV L 26 :: nthV L 27 :: nthV L 28 :: nthV L 29 :: nthV L 30 :: nthV L 31 :: nthV L 32 :: nthV L 33 :: nthV L 34 :: nthV L 35 :: nthV L 36 :: nthV L 37 :: nthV L 38 :: nthV L 39 :: nthV L 40 :: nthV L 41 :: nthV L 42 :: nthV L 43 :: nthV L 44 :: nthV L 45 :: nthV L 46 :: nthV L 47 :: nthV L 48 :: nthV L 49 :: nthV L 50 :: nthV L 51 :: nthV L 52 :: nthV L 53 :: nthV L 54 :: nthV L 55 :: nthV L 56 :: nthV L 57 :: nthV L 58 :: nthV L 59 :: nthV L 60 :: nthV L 61 :: nthV L 62 :: nthV L 63 :: nthV L 64 :: nthV L 65 :: nthV L 66 :: nthV L 67 :: nthV L 68 :: nthV L 69 :: nthV L 70 :: nthV L 71 :: nthV L 72 :: nthV L 73 :: nthV L 74 :: nthV L 75 :: nthV L 76 :: nthV L 77 :: nthV L 78 :: nthV L 79 :: nthV L 80 :: nthV L 81 :: nthV L 82 :: nthV L 83 :: nthV L 84 :: nthV L 85 :: nthV L 86 :: nthV L 87 :: nthV L 88 :: nthV L 89 :: nthV L 90 :: nthV L 91 :: nthV L 92 :: nthV L 93 :: nthV L 94 :: nthV L 95 :: nthV L 96 :: nthV L 97 :: nthV L 98 :: nthV L 99 :: nthV L 100 :: nthV L 101 :: nthV L 102 :: nthV L 103 :: nthV L 104 :: nthV L 105 :: nthV L 106 :: nthV L 107 :: nthV L 108 :: nthV L 109 :: nthV L 110 :: nthV L 111 :: nthV L 112 :: nthV L 113 :: nthV L 114 :: nthV L 115 :: nthV L 116 :: nthV L 117 :: nthV L 118 :: nthV L 119 :: nthV L 120 :: nthV L 121 :: nthV L 122 :: nthV L 123 :: nthV L 124 :: nthV L 125 :: nthV L 126 :: nthV L 127 :: nthV L 128 :: nthV L 129 :: nthV L 130 :: nthV L 131 :: nthV L 132 :: nthV L 133 :: nthV L 134 :: nthV L 135 :: nthV L 136 :: nthV L 137 :: nthV L 138 :: nthV L 139 :: nthV L 140 :: nthV L 141 :: nthV L 142 :: nthV L 143 :: nthV L 144 :: nthV L 145 :: nthV L 146 :: nthV L 147 :: nthV L 148 :: nthV L 149 :: nthV L 150 :: nthV L 151 :: nthV L 152 :: nthV L 153 :: nthV L 154 :: nthV L 155 :: nthV L 156 :: nthV L 157 :: nthV L 158 :: nthV L 159 :: nthV L 160 :: nthV L 161 :: nthV L 162 :: nthV L 163 :: nthV L 164 :: nthV L 165 :: nthV L 166 :: nthV L 167 :: nthV L 168 :: nthV L 169 :: nthV L 170 :: nthV L 171 :: nthV L 172 :: nthV L 173 :: nthV L 174 :: nthV L 175 :: nthV L 176 :: nthV L 177 :: nthV L 178 :: nthV L 179 :: nthV L 180 :: nthV L 181 :: nthV L 182 :: nthV L 183 :: nthV L 184 :: nthV L 185 :: nthV L 186 :: nthV L 187 :: nthV L 188 :: nthV L 189 :: nthV L 190 :: nthV L 191 :: nthV L 192 :: nthV L 193 :: nthV L 194 :: nthV L 195 :: nthV L 196 :: nthV L 197 :: nthV L 198 :: nthV L 199 :: nthV L 200 :: nthV L 201 :: nthV L 202 :: nthV L 203 :: nthV L 204 :: nthV L 205 :: nthV L 206 :: nthV L 207 :: nthV L 208 :: nthV L 209 :: nthV L 210 :: nthV L 211 :: nthV L 212 :: nthV L 213 :: nthV L 214 :: nthV L 215 :: nthV L 216 :: nthV L 217 :: nthV L 218 :: nthV L 219 :: nthV L 220 :: nthV L 221 :: nthV L 222 :: nthV L 223 :: nthV L 224 :: nthV L 225 :: nthV L 226 :: nthV L 227 :: nthV L 228 :: nthV L 229 :: nthV L 230 :: nthV L 231 :: nthV L 232 :: nthV L 233 :: nthV L 234 :: nthV L 235 :: nthV L 236 :: nthV L 237 :: nthV L 238 :: nthV L 239 :: nthV L 240 :: nthV L 241 :: nthV L 242 :: nthV L 243 :: nthV L 244 :: nthV L 245 :: nthV L 246 :: nthV L 247 :: nthV L 248 :: nthV L 249 :: nthV L 250 :: nthV L 251 :: nthV L 252 :: nthV L 253 :: nthV L 254 :: nthV L 255 :: nthV L 256 :: nthV L 257 :: nthV L 258 :: nthV L 259 :: nthV L 260 :: nthV L 261 :: nthV L 262 :: nthV L 263 :: nthV L 264 :: nthV L 265 :: nthV L 266 :: nthV L 267 :: nthV L 268 :: nthV L 269 :: nthV L 270 :: nthV L 271 :: nthV L 272 :: nthV L 273 :: nthV L 274 :: nthV L 275 :: nthV L 276 :: nthV L 277 :: []) : PF va np vc gb i ds { tmps := L.toArray, defers := ds } := ⟨fun k => nthV L k, by rw [← h]⟩
set_option maxRecDepth 100000 in
def PG (va : Option Addr) (np vc gb i : Nat) (la : Option Addr) (n1 lc : Nat) (ma : Option Addr) (n2 mc : Nat) (ta : Option Addr) (n3 tc : Nat) (ha : Option Addr) (nh hc sb : Nat) (fv : Value) (ds : List Deferred) (a : Act) : Prop := ∃ T : Nat → Value, a = { tmps := List.toArray (T 0 :: (.slice va np vc) :: T 2 :: T 3 :: (.bool false) :: (.pointer (some ⟨gb, 0, none⟩)) :: (.bool true) :: (.int .i64 (i : Int)) :: T 8 :: T 9 :: (.slice la n1 lc) :: T 11 :: T 12 :: (.slice ma n2 mc) :: (.slice ta n3 tc) :: T 15 :: (.slice ha nh hc) :: T 17 :: (.pointer (some ⟨sb, 0, none⟩)) :: T 19 :: T 20 :: T 21 :: T 22 :: T 23 :: T 24 :: T 25 :: T 26 :: T 27 :: T 28 :: T 29 :: T 30 :: T 31 :: T 32 :: T 33 :: T 34 :: T 35 :: T 36 :: T 37 :: T 38 :: T 39 :: T 40 :: T 41 :: T 42 :: T 43 :: T 44 :: T 45 :: T 46 :: T 47 :: T 48 :: T 49 :: T 50 :: T 51 :: T 52 :: T 53 :: T 54 :: T 55 :: T 56 :: T 57 :: T 58 :: T 59 :: T 60 :: T 61 :: T 62 :: T 63 :: T 64 :: T 65 :: T 66 :: T 67 :: T 68 :: T 69 :: T 70 :: T 71 :: T 72 :: T 73 :: T 74 :: T 75 :: T 76 :: T 77 :: T 78 :: T 79 :: T 80 :: T 81 :: T 82 :: T 83 :: T 84 :: T 85 :: T 86 :: T 87 :: T 88 :: T 89 :: T 90 :: T 91 :: T 92 :: T 93 :: T 94 :: T 95 :: T 96 :: T 97 :: T 98 :: T 99 :: T 100 :: T 101 :: T 102 :: T 103 :: T 104 :: T 105 :: T 106 :: fv :: T 108 :: T 109 :: T 110 :: T 111 :: T 112 :: T 113 :: T 114 :: T 115 :: T 116 :: T 117 :: T 118 :: T 119 :: T 120 :: T 121 :: T 122 :: T 123 :: T 124 :: T 125 :: T 126 :: T 127 :: T 128 :: T 129 :: T 130 :: T 131 :: T 132 :: T 133 :: T 134 :: T 135 :: T 136 :: T 137 :: T 138 :: T 139 :: T 140 :: T 141 :: T 142 :: T 143 :: T 144 :: T 145 :: T 146 :: T 147 :: T 148 :: T 149 :: T 150 :: T 151 :: T 152 :: T 153 :: T 154 :: T 155 :: T 156 :: T 157 :: T 158 :: T 159 :: T 160 :: T 161 :: T 162 :: T 163 :: T 164 :: T 165 :: T 166 :: T 167 :: T 168 :: T 169 :: T 170 :: T 171 :: T 172 :: T 173 :: T 174 :: T 175 :: T 176 :: T 177 :: T 178 :: T 179 :: T 180 :: T 181 :: T 182 :: T 183 :: T 184 :: T 185 :: T 186 :: T 187 :: T 188 :: T 189 :: T 190 :: T 191 :: T 192 :: T 193 :: T 194 :: T 195 :: T 196 :: T 197 :: T 198 :: T 199 :: T 200 :: T 201 :: T 202 :: T 203 :: T 204 :: T 205 :: T 206 :: T 207 :: T 208 :: T 209 :: T 210 :: T 211 :: T 212 :: T 213 :: T 214 :: T 215 :: T 216 :: T 217 :: T 218 :: T 219 :: T 220 :: T 221 :: T 222 :: T 223 :: T 224 :: T 225 :: T 226 :: T 227 :: T 228 :: T 229 :: T 230 :: T 231 :: T 232 :: T 233 :: T 234 :: T 235 :: T 236 :: T 237 :: T 238 :: T 239 :: T 240 :: T 241 :: T 242 :: T 243 :: T 244 :: T 245 :: T 246 :: T 247 :: T 248 :: T 249 :: T 250 :: T 251 :: T 252 :: T 253 :: T 254 :: T 255 :: T 256 :: T 257 :: T 258 :: T 259 :: T 260 :: T 261 :: T 262 :: T 263 :: T 264 :: T 265 :: T 266 :: T 267 :: T 268 :: T 269 :: T 270 :: T 271 :: T 272 :: T 273 :: T 274 :: T 275 :: T 276 :: T 277 :: []), defers := ds }
set_option maxRecDepth 100000 in
theorem pG_of {va : Option Addr} {np vc gb i : Nat} {la : Option Addr} {n1 lc : Nat} {ma : Option Addr} {n2 mc : Nat} {ta : Option Addr} {n3 tc : Nat} {ha : Option Addr} {nh hc sb : Nat} {fv : Value} {ds : List Deferred} (L : List Value) (h : L = nthV L 0 :: (.slice va np vc) :: nthV L 2 :: nthV L 3 :: (.bool false) :: (.pointer (some ⟨gb, 0, none⟩)) :: (.bool true) :: (.int .i64 (i : Int)) :: nthV L 8 :: nthV L 9 :: (.slice la n1 lc) :: nthV L 11 :: nthV L 12 :: (.slice ma n2 mc) :: (.slice ta n3 tc) :: nthV L 15 :: (.slice ha nh hc) :: nthV L 17 :: (.pointer (some ⟨sb, 0, none⟩)) :: nthV L 19 :: nthV L 20 :: nthV L 21 :: nthV L 22 :: nthV L 23 :: nthV L 24 :: nthV L 25 :: nthV L 26 :: nthV L 27 :: nthV L 28 :: nthV L 29 :: nthV L 30 :: nthV L 31 :: nthV L 32 :: nthV L 33 :: nthV L 34 :: nthV L 35 :: nthV L 36 :: nthV L 37 :: nthV L 38 :: nthV L 39 :: nthV L 40 :: nthV L 41 :: nthV L 42 :: nthV L 43 :: nthV L 44 :: nthV L 45 :: nthV L 46 :: nthV L 47 :: nthV L 48 :: nthV L 49 :: nthV L 50 :: nthV L 51 :: nthV L 52 :: nthV L 53 :: nthV L 54 :: nthV L 55 :: nthV L 56 :: nthV L 57 :: nthV L 58 :: nthV L 59 :: nthV L 60 :: nthV L 61 :: nthV L 62 :: nthV L 63 :: nthV L 64 :: nthV L 65 :: nthV L 66 :: nthV L 67 :: nthV L 68 :: nthV L 69 :: nthV L 70 :: nthV L 71 :: nthV L 72 :: nthV L 73 :: nthV L 74 :: nthV L 75 :: nthV L 76 :: nthV L 77 :: nthV L 78 :: nthV L 79 :: nthV L 80 :: nthV L 81 :: nthV L 82 :: nthV L 83 :: nthV L 84 :: nthV L 85 :: nthV L 86 :: nthV L 87 :: nthV L 88 :: nthV L 89 :: nthV L 90 :: nthV L 91 :: nthV L 92 :: nthV L 93 :: nthV L 94 :: nthV L 95 :: nthV L 96 :: nthV L 97 :: nthV L 98 :: nthV L 99 :: nthV L 100 :: nthV L 101 :: nthV L 102 :: nthV L 103 :: nthV L 104 :: nthV L 105 :: nthV L 106 :: fv :: nthV L 108 :: nthV L 109 :: nthV L 110 :: nthV L 111 :: nthV L 112 :: nthV L 113 :: nthV L 114 :: nthV L 115 :: nthV L 116 :: nthV L 117 :: nthV L 118 :: nthV L 119 :: nthV L 120 :: nthV L 121 :: nthV L 122 :: nthV L 123 :: nthV L 124 :: nthV L 125 :: nthV L 126 :: nthV L 127 :: nthV L 128 :: nthV L 129 :: nthV L 130 :: nthV L 131 :: nthV L 132 :: nthV L 133 :: nthV L 134 :: nthV L 135 :: nthV L 136 :: nthV L 137 :: nthV L 138 :: nthV L 139 :: nthV L 140 :: nthV L 141 :: nthV L 142 :: nthV L 143 :: nthV L 144 :: nthV L 145 :: nthV L 146 :: nthV L 147 :: nthV L 148 :: nthV L 149 :: nthV L 150 :: nthV L 151 :: nthV L 152 :: nthV L 153 :: nthV L 154 :: nthV L 155 :: nthV L 156 :: nthV L 157 :: nthV L 158 :: nthV L 159 :: nthV L 160 :: nthV L 161 :: nthV L 162 :: nthV L 163 :: nthV L 164 :: nthV L 165 :: nthV L 166 :: nthV L 167 :: nthV L 168 :: nthV L 169 :: nthV L 170 :: nthV L 171 :: nthV L 172 :: nthV L 173 :: nthV L 174 :: nthV L 175 :: nthV L 176 :: nthV L 177 :: nthV L 178 :: nthV L 179 :: nthV L 180 :: nthV L 181 :: nthV L 182 :: nthV L 183 :: nthV L 184 :: nthV L 185 :: nthV L 186 :: nthV L 187 :: nthV L 188 :: nthV L 189 :: nthV L 190 :: nthV L 191 :: nthV L 192 :: nthV L 193 :: nthV L 194 :: nthV L 195 :: nthV L 196 :: nthV L 197 :: nthV L 198 :: nthV L 199 :: nthV L 200 :: nthV L 201 :: nthV L 202 :: nthV L 203 :: nthV L 204 :: nthV L 205 :: nthV L 206 :: nthV L 207 :: nthV L 208 :: nthV L 209 :: nthV L 210 :: nthV L 211 :: nthV L 212 :: nthV L 213 :: nthV L 214 :: nthV L 215 :: nthV L 216 :: nthV L 217 :: nthV L 218 :: nthV L 219 :: nthV L 220 :: nthV L 221 :: nthV L 222 :: nthV L 223 :: nthV L 224 :: nthV L 225 :: nthV L 226 :: nthV L 227 :: nthV L 228 :: nthV L 229 :: nthV L 230 :: nthV L 231 :: nthV L 232 :: nthV L 233 :: nthV L 234 :: nthV L 235 :: nthV L 236 :: nthV L 237 :: nthV L 238 :: nthV L 239 :: nthV L 240 :: nthV L 241 :: nthV L 242 :: nthV L 243 :: nthV L 244 :: nthV L 245 :: nthV L 246 :: nthV L 247 :: nthV L 248 :: nthV L 249 :: nthV L 250 :: nthV L 251 :: nthV L 252 :: nthV L 253 :: nthV L 254 :: nthV L 255 :: nthV L 256 :: nthV L 257 :: nthV L 258 :: nthV L 259 :: nthV L 260 :: nthV L 261 :: nthV L 262 :: nthV L 263 :: nthV L 264 :: nthV L 265 :: nthV L 266 :: nthV L 267 :: nthV L 268 :: nthV L 269 :: nthV L 270 :: nthV L 271 :: nthV L 272 :: nthV L 273 :: nthV L 274 :: nthV L 275 :: nthV L 276 :: nthV L 277 :: []) : PG va np vc gb i la n1 lc ma n2 mc ta n3 tc ha nh hc sb fv ds { tmps := L.toArray, defers := ds } := ⟨fun k => nthV L k, by rw [← h]⟩
set_option maxRecDepth 100000 in
def PS (va : Option Addr) (np vc gb i : Nat) (la : Option Addr) (n1 lc : Nat) (ma : Option Addr) (n2 mc : Nat) (ta : Option Addr) (n3 tc : Nat) (ha : Option Addr) (nh hc sb : Nat) (ds : List Deferred) (a : Act) : Prop := ∃ T : Nat → Value, a = { tmps := List.toArray (T 0 :: (.slice va np vc) :: T 2 :: T 3 :: (.bool false) :: (.pointer (some ⟨gb, 0, none⟩)) :: (.bool true) :: (.int .i64 (i : Int)) :: T 8 :: T 9 :: (.slice la n1 lc) :: T 11 :: T 12 :: (.slice ma n2 mc) :: (.slice ta n3 tc) :: T 15 :: (.slice ha nh hc) :: T 17 :: (.pointer (some ⟨sb, 0, none⟩)) :: T 19 :: T 20 :: T 21 :: T 22 :: T 23 :: T 24 :: T 25 :: T 26 :: T 27 :: T 28 :: T 29 :: T 30 :: T 31 :: T 32 :: T 33 :: T 34 :: T 35 :: T 36 :: T 37 :: T 38 :: T 39 :: T 40 :: T 41 :: T 42 :: T 43 :: T 44 :: T 45 :: T 46 :: T 47 :: T 48 :: T 49 :: T 50 :: T 51 :: T 52 :: T 53 :: T 54 :: T 55 :: T 56 :: T 57 :: T 58 :: T 59 :: T 60 :: T 61 :: T 62 :: T 63 :: T 64 :: T 65 :: T 66 :: T 67 :: T 68 :: T 69 :: T 70 :: T 71 :: T 72 :: T 73 :: T 74 :: T 75 :: T 76 :: T 77 :: T 78 :: T 79 :: T 80 :: T 81 :: T 82 :: T 83 :: T 84 :: T 85 :: T 86 :: T 87 :: T 88 :: T 89 :: T 90 :: T 91 :: T 92 :: T 93 :: T 94 :: T 95 :: T 96 :: T 97 :: T 98 :: T 99 :: T 100 :: T 101 :: T 102 :: T 103 :: T 104 :: T 105 :: T 106 :: T 107 :: T 108 :: T 109 :: T 110 :: T 111 :: T 112 :: T 113 :: T 114 :: T 115 :: T 116 :: T 117 :: T 118 :: T 119 :: T 120 :: T 121 :: T 122 :: T 123 :: T 124 :: T 125 :: T 126 :: T 127 :: T 128 :: T 129 :: T 130 :: T 131 :: T 132 :: T 133 :: T 134 :: T 135 :: T 136 :: T 137 :: T 138 :: T 139 :: T 140 :: T 141 :: T 142 :: T 143 :: T 144 :: T 145 :: T 146 :: T 147 :: T 148 :: T 149 :: T 150 :: T 151 :: T 152 :: T 153 :: T 154 :: T 155 :: T 156 :: T 157 :: T 158 :: T 159 :: T 160 :: T 161 :: T 162 :: T 163 :: T 164 :: T 165 :: T 166 :: T 167 :: T 168 :: T 169 :: T 170 :: T 171 :: T 172 :: T 173 :: T 174 :: T 175 :: T 176 :: T 177 :: T 178 :: T 179 :: T 180 :: T 181 :: T 182 :: T 183 :: T 184 :: T 185 :: T 186 :: T 187 :: T 188 :: T 189 :: T 190 :: T 191 :: T 192 :: T 193 :: T 194 :: T 195 :: T 196 :: T 197 :: T 198 :: T 199 :: T 200 :: T 201 :: T 202 :: T 203 :: T 204 :: T 205 :: T 206 :: T 207 :: T 208 :: T 209 :: T 210 :: T 211 :: T 212 :: T 213 :: T 214 :: T 215 :: T 216 :: T 217 :: T 218 :: T 219 :: T 220 :: T 221 :: T 222 :: T 223 :: T 224 :: T 225 :: T 226 :: T 227 :: T 228 :: T 229 :: T 230 :: T 231 :: T 232 :: T 233 :: T 234 :: T 235 :: T 236 :: T 237 :: T 238 :: T 239 :: T 240 :: T 241 :: T 242 :: T 243 :: T 244 :: T 245 :: T 246 :: T 247 :: T 248 :: T 249 :: T 250 :: T 251 :: T 252 :: T 253 :: T 254 :: T 255 :: T 256 :: T 257 :: T 258 :: T 259 :: T 260 :: T 261 :: T 262 :: T 263 :: T 264 :: T 265 :: T 266 :: T 267 :: T 268 :: T 269 :: T 270 :: T 271 :: T 272 :: T 273 :: T 274 :: T 275 :: T 276 :: T 277 :: []), defers := ds }
set_option maxRecDepth 100000 in
theorem pS_of {va : Option Addr} {np vc gb i : Nat} {la : Option Addr} {n1 lc : Nat} {ma : Option Addr} {n2 mc : Nat} {ta : Option Addr} {n3 tc : Nat} {ha : Option Addr} {nh hc sb : Nat} {ds : List Deferred} (L : List Value) (h : L = nthV L 0 :: (.slice va np vc) :: nthV L 2 :: nthV L 3 :: (.bool false) :: (.pointer (some ⟨gb, 0, none⟩)) :: (.bool true) :: (.int .i64 (i : Int)) :: nthV L 8 :: nthV L 9 :: (.slice la n1 lc) :: nthV L 11 :: nthV L 12 :: (.slice ma n2 mc) :: (.slice ta n3 tc) :: nthV L 15 :: (.slice ha nh hc) :: nthV L 17 :: (.pointer (some ⟨sb, 0, none⟩)) :: nthV L 19 :: nthV L 20 :: nthV L 21 :: nthV L 22 :: nthV L 23 :: nthV L 24 :: nthV L 25 :: nthV L 26 :: nthV L 27 :: nthV L 28 :: nthV L 29 :: nthV L 30 :: nthV L 31 :: nthV L 32 :: nthV L 33 :: nthV L 34 :: nthV L 35 :: nthV L 36 :: nthV L 37 :: nthV L 38 :: nthV L 39 :: nthV L 40 :: nthV L 41 :: nthV L 42 :: nthV L 43 :: nthV L 44 :: nthV L 45 :: nthV L 46 :: nthV L 47 :: nthV L 48 :: nthV L 49 :: nthV L 50 :: nthV L 51 :: nthV L 52 :: nthV L 53 :: nthV L 54 :: nthV L 55 :: nthV L 56 :: nthV L 57 :: nthV L 58 :: nthV L 59 :: nthV L 60 :: nthV L 61 :: nthV L 62 :: nthV L 63 :: nthV L 64 :: nthV L 65 :: nthV L 66 :: nthV L 67 :: nthV L 68 :: nthV L 69 :: nthV L 70 :: nthV L 71 :: nthV L 72 :: nthV L 73 :: nthV L 74 :: nthV L 75 :: nthV L 76 :: nthV L 77 :: nthV L 78 :: nthV L 79 :: nthV L 80 :: nthV L 81 :: nthV L 82 :: nthV L 83 :: nthV L 84 :: nthV L 85 :: nthV L 86 :: nthV L 87 :: nthV L 88 :: nthV L 89 :: nthV L 90 :: nthV L 91 :: nthV L 92 :: nthV L 93 :: nthV L 94 :: nthV L 95 :: nthV L 96 :: nthV L 97 :: nthV L 98 :: nthV L 99 :: nthV L 100 :: nthV L 101 :: nthV L 102 :: nthV L 103 :: nthV L 104 :: nthV L 105 :: nthV L 106 :: nthV L 107 :: nthV L 108 :: nthV L 109 :: nthV L 110 :: nthV L 111 :: nthV L 112 :: nthV L 113 :: nthV L 114 :: nthV L 115 :: nthV L 116 :: nthV L 117 :: nthV L 118 :: nthV L 119 :: nthV L 120 :: nthV L 121 :: nthV L 122 :: nthV L 123 :: nthV L 124 :: nthV L 125 :: nthV L 126 :: nthV L 127 :: nthV L 128 :: nthV L 129 :: nthV L 130 :: nthV L 131 :: nthV L 132 :: nthV L 133 :: nthV L 134 :: nthV L 135 :: nthV L 136 :: nthV L 137 :: nthV L 138 :: nthV L 139 :: nthV L 140 :: nthV L 141 :: nthV L 142 :: nthV L 143 :: nthV L 144 :: nthV L 145 :: nthV L 146 :: nthV L 147 :: nthV L 148 :: nthV L 149 :: nthV L 150 :: nthV L 151 :: nthV L 152 :: nthV L 153 :: nthV L 154 :: nthV L 155 :: nthV L 156 :: nthV L 157 :: nthV L 158 :: nthV L 159 :: nthV L 160 :: nthV L 161 :: nthV L 162 :: nthV L 163 :: nthV L 164 :: nthV L 165 :: nthV L 166 :: nthV L 167 :: nthV L 168 :: nthV L 169 :: nthV L 170 :: nthV L 171 :: nthV L 172 :: nthV L 173 :: nthV L 174 :: nthV L 175 :: nthV L 176 :: nthV L 177 :: nthV L 178 :: nthV L 179 :: nthV L 180 :: nthV L 181 :: nthV L 182 :: nthV L 183 :: nthV L 184 :: nthV L 185 :: nthV L 186 :: nthV L 187 :: nthV L 188 :: nthV L 189 :: nthV L 190 :: nthV L 191 :: nthV L 192 :: nthV L 193 :: nthV L 194 :: nthV L 195 :: nthV L 196 :: nthV L 197 :: nthV L 198 :: nthV L 199 :: nthV L 200 :: nthV L 201 :: nthV L 202 :: nthV L 203 :: nthV L 204 :: nthV L 205 :: nthV L 206 :: nthV L 207 :: nthV L 208 :: nthV L 209 :: nthV L 210 :: nthV L 211 :: nthV L 212 :: nthV L 213 :: nthV L 214 :: nthV L 215 :: nthV L 216 :: nthV L 217 :: nthV L 218 :: nthV L 219 :: nthV L 220 :: nthV L 221 :: nthV L 222 :: nthV L 223 :: nthV L 224 :: nthV L 225 :: nthV L 226 :: nthV L 227 :: nthV L 228 :: nthV L 229 :: nthV L 230 :: nthV L 231 :: nthV L 232 :: nthV L 233 :: nthV L 234 :: nthV L 235 :: nthV L 236 :: nthV L 237 :: nthV L 238 :: nthV L 239 :: nthV L 240 :: nthV L 241 :: nthV L 242 :: nthV L 243 :: nthV L 244 :: nthV L 245 :: nthV L 246 :: nthV L 247 :: nthV L 248 :: nthV L 249 :: nthV L 250 :: nthV L 251 :: nthV L 252 :: nthV L 253 :: nthV L 254 :: nthV L 255 :: nthV L 256 :: nthV L 257 :: nthV L 258 :: nthV L 259 :: nthV L 260 :: nthV L 261 :: nthV L 262 :: nthV L 263 :: nthV L 264 :: nthV L 265 :: nthV L 266 :: nthV L 267 :: nthV L 268 :: nthV L 269 :: nthV L 270 :: nthV L 271 :: nthV L 272 :: nthV L 273 :: nthV L 274 :: nthV L 275 :: nthV L 276 :: nthV L 277 :: []) : PS va np vc gb i la n1 lc ma n2 mc ta n3 tc ha nh hc sb ds { tmps := L.toArray, defers := ds } := ⟨fun k => nthV L k, by rw [← h]⟩
set_option maxRecDepth 100000 in
def PK (va : Option Addr) (np vc gb i : Nat) (la : Option Addr) (n1 lc : Nat) (ma : Option Addr) (n2 mc : Nat) (ta : Option Addr) (n3 tc : Nat) (ha : Option Addr) (nh hc sb : Nat) (pf pi told k : Nat) (ds : List Deferred) (a : Act) : Prop := ∃ T : Nat → Value, a = { tmps := List.toArray (T 0 :: (.slice va np vc) :: T 2 :: T 3 :: (.bool false) :: (.pointer (some ⟨gb, 0, none⟩)) :: (.bool true) :: (.int .i64 (i : Int)) :: T 8 :: T 9 :: (.slice la n1 lc) :: T 11 :: T 12 :: (.slice ma n2 mc) :: (.slice ta n3 tc) :: T 15 :: (.slice ha nh hc) :: T 17 :: (.pointer (some ⟨sb, 0, none⟩)) :: T 19 :: (.int .i64 (pf : Int)) :: (.int .i64 (pi : Int)) :: (.int .i64 (told : Int)) :: (.int .i64 (k : Int)) :: T 24 :: T 25 :: T 26 :: T 27 :: T 28 :: T 29 :: T 30 :: T 31 :: T 32 :: T 33 :: T 34 :: T 35 :: T 36 :: T 37 :: T 38 :: T 39 :: T 40 :: T 41 :: T 42 :: T 43 :: T 44 :: T 45 :: T 46 :: T 47 :: T 48 :: T 49 :: T 50 :: T 51 :: T 52 :: T 53 :: T 54 :: T 55 :: T 56 :: T 57 :: T 58 :: T 59 :: T 60 :: T 61 :: T 62 :: T 63 :: T 64 :: T 65 :: T 66 :: T 67 :: T 68 :: T 69 :: T 70 :: T 71 :: T 72 :: T 73 :: T 74 :: T 75 :: T 76 :: T 77 :: T 78 :: T 79 :: T 80 :: T 81 :: T 82 :: T 83 :: T 84 :: T 85 :: T 86 :: T 87 :: T 88 :: T 89 :: T 90 :: T 91 :: T 92 :: T 93 :: T 94 :: T 95 :: T 96 :: T 97 :: T 98 :: T 99 :: T 100 :: T 101 :: T 102 :: T 103 :: T 104 :: T 105 :: T 106 :: T 107 :: T 108 :: T 109 :: T 110 :: T 111 :: T 112 :: T 113 :: T 114 :: T 115 :: T 116 :: T 117 :: T 118 :: T 119 :: T 120 :: T 121 :: T 122 :: T 123 :: T 124 :: T 125 :: T 126 :: T 127 :: T 128 :: T 129 :: T 130 :: T 131 :: T 132 :: T 133 :: T 134 :: T 135 :: T 136 :: T 137 :: T 138 :: T 139 :: T 140 :: T 141 :: T 142 :: T 143 :: T 144 :: T 145 :: T 146 :: T 147 :: T 148 :: T 149 :: T 150 :: T 151 :: T 152 :: T 153 :: T 154 :: T 155 :: T 156 :: T 157 :: T 158 :: T 159 :: T 160 :: T 161 :: T 162 :: T 163 :: T 164 :: T 165 :: T 166 :: T 167 :: T 168 :: T 169 :: T 170 :: T 171 :: T 172 :: T 173 :: T 174 :: T 175 :: T 176 :: T 177 :: T 178 :: T 179 :: T 180 :: T 181 :: T 182 :: T 183 :: T 184 :: T 185 :: T 186 :: T 187 :: T 188 :: T 189 :: T 190 :: T 191 :: T 192 :: T 193 :: T 194 :: T 195 :: T 196 :: T 197 :: T 198 :: T 199 :: T 200 :: T 201 :: T 202 :: T 203 :: T 204 :: T 205 :: T 206 :: T 207 :: T 208 :: T 209 :: T 210 :: T 211 :: T 212 :: T 213 :: T 214 :: T 215 :: T 216 :: T 217 :: T 218 :: T 219 :: T 220 :: T 221 :: T 222 :: T 223 :: T 224 :: T 225 :: T 226 :: T 227 :: T 228 :: T 229 :: T 230 :: T 231 :: T 232 :: T 233 :: T 234 :: T 235 :: T 236 :: T 237 :: T 238 :: T 239 :: T 240 :: T 241 :: T 242 :: T 243 :: T 244 :: T 245 :: T 246 :: T 247 :: T 248 :: T 249 :: T 250 :: T 251 :: T 252 :: T 253 :: T 254 :: T 255 :: T 256 :: T 257 :: T 258 :: T 259 :: T 260 :: T 261 :: T 262 :: T 263 :: T 264 :: T 265 :: T 266 :: T 267 :: T 268 :: T 269 :: T 270 :: T 271 :: T 272 :: T 273 :: T 274 :: T 275 :: T 276 :: T 277 :: []), defers := ds }
set_option maxRecDepth 100000 in
theorem pK_of {va : Option Addr} {np vc gb i : Nat} {la : Option Addr} {n1 lc : Nat} {ma : Option Addr} {n2 mc : Nat} {ta : Option Addr} {n3 tc : Nat} {ha : Option Addr} {nh hc sb : Nat} {pf pi told k : Nat} {ds : List Deferred} (L : List Value) (h : L = nthV L 0 :: (.slice va np vc) :: nthV L 2 :: nthV L 3 :: (.bool false) :: (.pointer (some ⟨gb, 0, none⟩)) :: (.bool true) :: (.int .i64 (i : Int)) :: nthV L 8 :: nthV L 9 :: (.slice la n1 lc) :: nthV L 11 :: nthV L 12 :: (.slice ma n2 mc) :: (.slice ta n3 tc) :: nthV L 15 :: (.slice ha nh hc) :: nthV L 17 :: (.pointer (some ⟨sb, 0, none⟩)) :: nthV L 19 :: (.int .i64 (pf : Int)) :: (.int .i64 (pi : Int)) :: (.int .i64 (told : Int)) :: (.int .i64 (k : Int)) :: nthV L 24 :: nthV L 25 :: nthV L 26 :: nthV L 27 :: nthV L 28 :: nthV L 29 :: nthV L 30 :: nthV L 31 :: nthV L 32 :: nthV L 33 :: nthV L 34 :: nthV L 35 :: nthV L 36 :: nthV L 37 :: nthV L 38 :: nthV L 39 :: nthV L 40 :: nthV L 41 :: nthV L 42 :: nthV L 43 :: nthV L 44 :: nthV L 45 :: nthV L 46 :: nthV L 47 :: nthV L 48 :: nthV L 49 :: nthV L 50 :: nthV L 51 :: nthV L 52 :: nthV L 53 :: nthV L 54 :: nthV L 55 :: nthV L 56 :: nthV L 57 :: nthV L 58 :: nthV L 59 :: nthV L 60 :: nthV L 61 :: nthV L 62 :: nthV L 63 :: nthV L 64 :: nthV L 65 :: nthV L 66 :: nthV L 67 :: nthV L 68 :: nthV L 69 :: nthV L 70 :: nthV L 71 :: nthV L 72 :: nthV L 73 :: nthV L 74 :: nthV L 75 :: nthV L 76 :: nthV L 77 :: nthV L 78 :: nthV L 79 :: nthV L 80 :: nthV L 81 :: nthV L 82 :: nthV L 83 :: nthV L 84 :: nthV L 85 :: nthV L 86 :: nthV L 87 :: nthV L 88 :: nthV L 89 :: nthV L 90 :: nthV L 91 :: nthV L 92 :: nthV L 93 :: nthV L 94 :: nthV L 95 :: nthV L 96 :: nthV L 97 :: nthV L 98 :: nthV L 99 :: nthV L 100 :: nthV L 101 :: nthV L 102 :: nthV L 103 :: nthV L 104 :: nthV L 105 :: nthV L 106 :: nthV L 107 :: nthV L 108 :: nthV L 109 :: nthV L 110 :: nthV L 111 :: nthV L 112 :: nthV L 113 :: nthV L 114 :: nthV L 115 :: nthV L 116 :: nthV L 117 :: nthV L 118 :: nthV L 119 :: nthV L 120 :: nthV L 121 :: nthV L 122 :: nthV L 123 :: nthV L 124 :: nthV L 125 :: nthV L 126 :: nthV L 127 :: nthV L 128 :: nthV L 129 :: nthV L 130 :: nthV L 131 :: nthV L 132 :: nthV L 133 :: nthV L 134 :: nthV L 135 :: nthV L 136 :: nthV L 137 :: nthV L 138 :: nthV L 139 :: nthV L 140 :: nthV L 141 :: nthV L 142 :: nthV L 143 :: nthV L 144 :: nthV L 145 :: nthV L 146 :: nthV L 147 :: nthV L 148 :: nthV L 149 :: nthV L 150 :: nthV L 151 :: nthV L 152 :: nthV L 153 :: nthV L 154 :: nthV L 155 :: nthV L 156 :: nthV L 157 :: nthV L 158 :: nthV L 159 :: nthV L 160 :: nthV L 161 :: nthV L 162 :: nthV L 163 :: nthV L 164 :: nthV L 165 :: nthV L 166 :: nthV L 167 :: nthV L 168 :: nthV L 169 :: nthV L 170 :: nthV L 171 :: nthV L 172 :: nthV L 173 :: nthV L 174 :: nthV L 175 :: nthV L 176 :: nthV L 177 :: nthV L 178 :: nthV L 179 :: nthV L 180 :: nthV L 181 :: nthV L 182 :: nthV L 183 :: nthV L 184 :: nthV L 185 :: nthV L 186 :: nthV L 187 :: nthV L 188 :: nthV L 189 :: nthV L 190 :: nthV L 191 :: nthV L 192 :: nthV L 193 :: nthV L 194 :: nthV L 195 :: nthV L 196 :: nthV L 197 :: nthV L 198 :: nthV L 199 :: nthV L 200 :: nthV L 201 :: nthV L 202 :: nthV L 203 :: nthV L 204 :: nthV L 205 :: nthV L 206 :: nthV L 207 :: nthV L 208 :: nthV L 209 :: nthV L 210 :: nthV L 211 :: nthV L 212 :: nthV L 213 :: nthV L 214 :: nthV L 215 :: nthV L 216 :: nthV L 217 :: nthV L 218 :: nthV L 219 :: nthV L 220 :: nthV L 221 :: nthV L 222 :: nthV L 223 :: nthV L 224 :: nthV L 225 :: nthV L 226 :: nthV L 227 :: nthV L 228 :: nthV L 229 :: nthV L 230 :: nthV L 231 :: nthV L 232 :: nthV L 233 :: nthV L 234 :: nthV L 235 :: nthV L 236 :: nthV L 237 :: nthV L 238 :: nthV L 239 :: nthV L 240 :: nthV L 241 :: nthV L 242 :: nthV L 243 :: nthV L 244 :: nthV L 245 :: nthV L 246 :: nthV L 247 :: nthV L 248 :: nthV L 249 :: nthV L 250 :: nthV L 251 :: nthV L 252 :: nthV L 253 :: nthV L 254 :: nthV L 255 :: nthV L 256 :: nthV L 257 :: nthV L 258 :: nthV L 259 :: nthV L 260 :: nthV L 261 :: nthV L 262 :: nthV L 263 :: nthV L 264 :: nthV L 265 :: nthV L 266 :: nthV L 267 :: nthV L 268 :: nthV L 269 :: nthV L 270 :: nthV L 271 :: nthV L 272 :: nthV L 273 :: nthV L 274 :: nthV L 275 :: nthV L 276 :: nthV L 277 :: []) : PK va np vc gb i la n1 lc ma n2 mc ta n3 tc ha nh hc sb pf pi told k ds { tmps := L.toArray, defers := ds } := ⟨fun k => nthV L k, by rw [← h]⟩
set_option maxRecDepth 100000 in
def PX (va : Option Addr) (np vc gb i : Nat) (la : Option Addr) (n1 lc : Nat) (ma : Option Addr) (n2 mc : Nat) (ta : Option Addr) (n3 tc : Nat) (ha : Option Addr) (nh hc sb : Nat) (pf pi told k xb : Nat) (ds : List Deferred) (a : Act) : Prop := ∃ T : Nat → Value, a = { tmps := List.toArray (T 0 :: (.slice va np vc) :: T 2 :: T 3 :: (.bool false) :: (.pointer (some ⟨gb, 0, none⟩)) :: (.bool true) :: (.int .i64 (i : Int)) :: T 8 :: T 9 :: (.slice la n1 lc) :: T 11 :: T 12 :: (.slice ma n2 mc) :: (.slice ta n3 tc) :: T 15 :: (.slice ha nh hc) :: T 17 :: (.pointer (some ⟨sb, 0, none⟩)) :: T 19 :: (.int .i64 (pf : Int)) :: (.int .i64 (pi : Int)) :: (.int .i64 (told : Int)) :: (.int .i64 (k : Int)) :: (.pointer (some ⟨xb, 0, none⟩)) :: T 25 :: T 26 :: T 27 :: T 28 :: T 29 :: T 30 :: T 31 :: T 32 :: T 33 :: T 34 :: T 35 :: T 36 :: T 37 :: T 38 :: T 39 :: T 40 :: T 41 :: T 42 :: T 43 :: T 44 :: T 45 :: T 46 :: T 47 :: T 48 :: T 49 :: T 50 :: T 51 :: T 52 :: T 53 :: T 54 :: T 55 :: T 56 :: T 57 :: T 58 :: T 59 :: T 60 :: T 61 :: T 62 :: T 63 :: T 64 :: T 65 :: T 66 :: T 67 :: T 68 :: T 69 :: T 70 :: T 71 :: T 72 :: T 73 :: T 74 :: T 75 :: T 76 :: T 77 :: T 78 :: T 79 :: T 80 :: T 81 :: T 82 :: T 83 :: T 84 :: T 85 :: T 86 :: T 87 :: T 88 :: T 89 :: T 90 :: T 91 :: T 92 :: T 93 :: T 94 :: T 95 :: T 96 :: T 97 :: T 98 :: T 99 :: T 100 :: T 101 :: T 102 :: T 103 :: T 104 :: T 105 :: T 106 :: T 107 :: T 108 :: T 109 :: T 110 :: T 111 :: T 112 :: T 113 :: T 114 :: T 115 :: T 116 :: T 117 :: T 118 :: T 119 :: T 120 :: T 121 :: T 122 :: T 123 :: T 124 :: T 125 :: T 126 :: T 127 :: T 128 :: T 129 :: T 130 :: T 131 :: T 132 :: T 133 :: T 134 :: T 135 :: T 136 :: T 137 :: T 138 :: T 139 :: T 140 :: T 141 :: T 142 :: T 143 :: T 144 :: T 145 :: T 146 :: T 147 :: T 148 :: T 149 :: T 150 :: T 151 :: T 152 :: T 153 :: T 154 :: T 155 :: T 156 :: T 157 :: T 158 :: T 159 :: T 160 :: T 161 :: T 162 :: T 163 :: T 164 :: T 165 :: T 166 :: T 167 :: T 168 :: T 169 :: T 170 :: T 171 :: T 172 :: T 173 :: T 174 :: T 175 :: T 176 :: T 177 :: T 178 :: T 179 :: T 180 :: T 181 :: T 182 :: T 183 :: T 184 :: T 185 :: T 186 :: T 187 :: T 188 :: T 189 :: T 190 :: T 191 :: T 192 :: T 193 :: T 194 :: T 195 :: T 196 :: T 197 :: T 198 :: T 199 :: T 200 :: T 201 :: T 202 :: T 203 :: T 204 :: T 205 :: T 206 :: T 207 :: T 208 :: T 209 :: T 210 :: T 211 :: T 212 :: T 213 :: T 214 :: T 215 :: T 216 :: T 217 :: T 218 :: T 219 :: T 220 :: T 221 :: T 222 :: T 223 :: T 224 :: T 225 :: T 226 :: T 227 :: T 228 :: T 229 :: T 230 :: T 231 :: T 232 :: T 233 :: T 234 :: T 235 :: T 236 :: T 237 :: T 238 :: T 239 :: T 240 :: T 241 :: T 242 :: T 243 :: T 244 :: T 245 :: T 246 :: T 247 :: T 248 :: T 249 :: T 250 :: T 251 :: T 252 :: T 253 :: T 254 :: T 255 :: T 256 :: T 257 :: T 258 :: T 259 :: T 260 :: T 261 :: T 262 :: T 263 :: T 264 :: T 265 :: T 266 :: T 267 :: T 268 :: T 269 :: T 270 :: T 271 :: T 272 :: T 273 :: T 274 :: T 275 :: T 276 :: T 277 :: []), defers := ds }
set_option maxRecDepth 100000 in
theorem pX_of {va : Option Addr} {np vc gb i : Nat} {la : Option Addr} {n1 lc : Nat} {ma : Option Addr} {n2 mc : Nat} {ta : Option Addr} {n3 tc : Nat} {ha : Option Addr} {nh hc sb : Nat} {pf pi told k xb : Nat} {ds : List Deferred} (L : List Value) (h : L = nthV L 0 :: (.slice va np vc) :: nthV L 2 :: nthV L 3 :: (.bool false) :: (.pointer (some ⟨gb, 0, none⟩)) :: (.bool true) :: (.int .i64 (i : Int)) :: nthV L 8 :: nthV L 9 :: (.slice la n1 lc) :: nthV L 11 :: nthV L 12 :: (.slice ma n2 mc) :: (.slice ta n3 tc) :: nthV L 15 :: (.slice ha nh hc) :: nthV L 17 :: (.pointer (some ⟨sb, 0, none⟩)) :: nthV L 19 :: (.int .i64 (pf : Int)) :: (.int .i64 (pi : Int)) :: (.int .i64 (told : Int)) :: (.int .i64 (k : Int)) :: (.pointer (some ⟨xb, 0, none⟩)) :: nthV L 25 :: nthV L 26 :: nthV L 27 :: nthV L 28 :: nthV L 29 :: nthV L 30 :: nthV L 31 :: nthV L 32 :: nthV L 33 :: nthV L 34 :: nthV L 35 :: nthV L 36 :: nthV L 37 :: nthV L 38 :: nthV L 39 :: nthV L 40 :: nthV L 41 :: nthV L 42 :: nthV L 43 :: nthV L 44 :: nthV L 45 :: nthV L 46 :: nthV L 47 :: nthV L 48 :: nthV L 49 :: nthV L 50 :: nthV L 51 :: nthV L 52 :: nthV L 53 :: nthV L 54 :: nthV L 55 :: nthV L 56 :: nthV L 57 :: nthV L 58 :: nthV L 59 :: nthV L 60 :: nthV L 61 :: nthV L 62 :: nthV L 63 :: nthV L 64 :: nthV L 65 :: nthV L 66 :: nthV L 67 :: nthV L 68 :: nthV L 69 :: nthV L 70 :: nthV L 71 :: nthV L 72 :: nthV L 73 :: nthV L 74 :: nthV L 75 :: nthV L 76 :: nthV L 77 :: nthV L 78 :: nthV L 79 :: nthV L 80 :: nthV L 81 :: nthV L 82 :: nthV L 83 :: nthV L 84 :: nthV L 85 :: nthV L 86 :: nthV L 87 :: nthV L 88 :: nthV L 89 :: nthV L 90 :: nthV L 91 :: nthV L 92 :: nthV L 93 :: nthV L 94 :: nthV L 95 :: nthV L 96 :: nthV L 97 :: nthV L 98 :: nthV L 99 :: nthV L 100 :: nthV L 101 :: nthV L 102 :: nthV L 103 :: nthV L 104 :: nthV L 105 :: nthV L 106 :: nthV L 107 :: nthV L 108 :: nthV L 109 :: nthV L 110 :: nthV L 111 :: nthV L 112 :: nthV L 113 :: nthV L 114 :: nthV L 115 :: nthV L 116 :: nthV L 117 :: nthV L 118 :: nthV L 119 :: nthV L 120 :: nthV L 121 :: nthV L 122 :: nthV L 123 :: nthV L 124 :: nthV L 125 :: nthV L 126 :: nthV L 127 :: nthV L 128 :: nthV L 129 :: nthV L 130 :: nthV L 131 :: nthV L 132 :: nthV L 133 :: nthV L 134 :: nthV L 135 :: nthV L 136 :: nthV L 137 :: nthV L 138 :: nthV L 139 :: nthV L 140 :: nthV L 141 :: nthV L 142 :: nthV L 143 :: nthV L 144 :: nthV L 145 :: nthV L 146 :: nthV L 147 :: nthV L 148 :: nthV L 149 :: nthV L 150 :: nthV L 151 :: nthV L 152 :: nthV L 153 :: nthV L 154 :: nthV L 155 :: nthV L 156 :: nthV L 157 :: nthV L 158 :: nthV L 159 :: nthV L 160 :: nthV L 161 :: nthV L 162 :: nthV L 163 :: nthV L 164 :: nthV L 165 :: nthV L 166 :: nthV L 167 :: nthV L 168 :: nthV L 169 :: nthV L 170 :: nthV L 171 :: nthV L 172 :: nthV L 173 :: nthV L 174 :: nthV L 175 :: nthV L 176 :: nthV L 177 :: nthV L 178 :: nthV L 179 :: nthV L 180 :: nthV L 181 :: nthV L 182 :: nthV L 183 :: nthV L 184 :: nthV L 185 :: nthV L 186 :: nthV L 187 :: nthV L 188 :: nthV L 189 :: nthV L 190 :: nthV L 191 :: nthV L 192 :: nthV L 193 :: nthV L 194 :: nthV L 195 :: nthV L 196 :: nthV L 197 :: nthV L 198 :: nthV L 199 :: nthV L 200 :: nthV L 201 :: nthV L 202 :: nthV L 203 :: nthV L 204 :: nthV L 205 :: nthV L 206 :: nthV L 207 :: nthV L 208 :: nthV L 209 :: nthV L 210 :: nthV L 211 :: nthV L 212 :: nthV L 213 :: nthV L 214 :: nthV L 215 :: nthV L 216 :: nthV L 217 :: nthV L 218 :: nthV L 219 :: nthV L 220 :: nthV L 221 :: nthV L 222 :: nthV L 223 :: nthV L 224 :: nthV L 225 :: nthV L 226 :: nthV L 227 :: nthV L 228 :: nthV L 229 :: nthV L 230 :: nthV L 231 :: nthV L 232 :: nthV L 233 :: nthV L 234 :: nthV L 235 :: nthV L 236 :: nthV L 237 :: nthV L 238 :: nthV L 239 :: nthV L 240 :: nthV L 241 :: nthV L 242 :: nthV L 243 :: nthV L 244 :: nthV L 245 :: nthV L 246 :: nthV L 247 :: nthV L 248 :: nthV L 249 :: nthV L 250 :: nthV L 251 :: nthV L 252 :: nthV L 253 :: nthV L 254 :: nthV L 255 :: nthV L 256 :: nthV L 257 :: nthV L 258 :: nthV L 259 :: nthV L 260 :: nthV L 261 :: nthV L 262 :: nthV L 263 :: nthV L 264 :: nthV L 265 :: nthV L 266 :: nthV L 267 :: nthV L 268 :: nthV L 269 :: nthV L 270 :: nthV L 271 :: nthV L 272 :: nthV L 273 :: nthV L 274 :: nthV L 275 :: nthV L 276 :: nthV L 277 :: []) : PX va np vc gb i la n1 lc ma n2 mc ta n3 tc ha nh hc sb pf pi told k xb ds { tmps := L.toArray, defers := ds } := ⟨fun k => nthV L k, by rw [← h]⟩
set_option maxRecDepth 100000 in
def PY (va : Option Addr) (np vc gb i : Nat) (la : Option Addr) (n1 lc : Nat) (ma : Option Addr) (n2 mc : Nat) (ta : Option Addr) (n3 tc : Nat) (ha : Option Addr) (nh hc sb : Nat) (pf pi told k xb : Nat) (ds : List Deferred) (a : Act) : Prop := ∃ T : Nat → Value, a = { tmps := List.toArray (T 0 :: (.slice va np vc) :: T 2 :: T 3 :: (.bool false) :: (.pointer (some ⟨gb, 0, none⟩)) :: (.bool true) :: (.int .i64 (i : Int)) :: T 8 :: T 9 :: (.slice la n1 lc) :: T 11 :: T 12 :: (.slice ma n2 mc) :: (.slice ta n3 tc) :: T 15 :: (.slice ha nh hc) :: T 17 :: (.pointer (some ⟨sb, 0, none⟩)) :: T 19 :: (.int .i64 (pf : Int)) :: (.int .i64 (pi : Int)) :: (.int .i64 (told : Int)) :: (.int .i64 (k : Int)) :: (.pointer (some ⟨xb, 0, none⟩)) :: T 25 :: T 26 :: T 27 :: T 28 :: T 29 :: T 30 :: T 31 :: T 32 :: T 33 :: T 34 :: T 35 :: T 36 :: T 37 :: T 38 :: T 39 :: T 40 :: T 41 :: T 42 :: T 43 :: T 44 :: T 45 :: T 46 :: T 47 :: T 48 :: T 49 :: T 50 :: T 51 :: T 52 :: T 53 :: T 54 :: T 55 :: T 56 :: T 57 :: T 58 :: T 59 :: T 60 :: T 61 :: T 62 :: T 63 :: T 64 :: T 65 :: T 66 :: T 67 :: T 68 :: T 69 :: T 70 :: T 71 :: T 72 :: T 73 :: T 74 :: T 75 :: T 76 :: T 77 :: T 78 :: T 79 :: T 80 :: T 81 :: T 82 :: T 83 :: T 84 :: T 85 :: T 86 :: T 87 :: T 88 :: T 89 :: T 90 :: T 91 :: T 92 :: T 93 :: T 94 :: T 95 :: T 96 :: T 97 :: T 98 :: T 99 :: T 100 :: T 101 :: T 102 :: T 103 :: T 104 :: T 105 :: T 106 :: T 107 :: T 108 :: T 109 :: T 110 :: T 111 :: T 112 :: T 113 :: T 114 :: T 115 :: T 116 :: T 117 :: T 118 :: T 119 :: T 120 :: T 121 :: T 122 :: T 123 :: T 124 :: T 125 :: T 126 :: T 127 :: T 128 :: T 129 :: T 130 :: T 131 :: T 132 :: T 133 :: T 134 :: T 135 :: T 136 :: T 137 :: T 138 :: T 139 :: T 140 :: T 141 :: T 142 :: T 143 :: T 144 :: T 145 :: T 146 :: T 147 :: T 148 :: T 149 :: T 150 :: T 151 :: T 152 :: T 153 :: T 154 :: T 155 :: T 156 :: T 157 :: T 158 :: T 159 :: T 160 :: T 161 :: T 162 :: T 163 :: T 164 :: T 165 :: T 166 :: T 167 :: T 168 :: T 169 :: T 170 :: (.bool false) :: T 172 :: T 173 :: T 174 :: T 175 :: T 176 :: T 177 :: T 178 :: T 179 :: T 180 :: T 181 :: T 182 :: T 183 :: T 184 :: T 185 :: T 186 :: T 187 :: T 188 :: T 189 :: T 190 :: T 191 :: T 192 :: T 193 :: T 194 :: T 195 :: T 196 :: T 197 :: T 198 :: T 199 :: T 200 :: T 201 :: T 202 :: T 203 :: T 204 :: T 205 :: T 206 :: T 207 :: T 208 :: T 209 :: T 210 :: T 211 :: T 212 :: T 213 :: T 214 :: T 215 :: T 216 :: T 217 :: T 218 :: T 219 :: T 220 :: T 221 :: T 222 :: T 223 :: T 224 :: T 225 :: T 226 :: T 227 :: T 228 :: T 229 :: T 230 :: T 231 :: T 232 :: T 233 :: T 234 :: T 235 :: T 236 :: T 237 :: T 238 :: T 239 :: T 240 :: T 241 :: T 242 :: T 243 :: T 244 :: T 245 :: T 246 :: T 247 :: T 248 :: T 249 :: T 250 :: T 251 :: T 252 :: T 253 :: T 254 :: T 255 :: T 256 :: T 257 :: T 258 :: T 259 :: T 260 :: T 261 :: T 262 :: T 263 :: T 264 :: T 265 :: T 266 :: T 267 :: T 268 :: T 269 :: T 270 :: T 271 :: T 272 :: T 273 :: T 274 :: T 275 :: T 276 :: T 277 :: []), defers := ds }
set_option maxRecDepth 100000 in
theorem pY_of {va : Option Addr} {np vc gb i : Nat} {la : Option Addr} {n1 lc : Nat} {ma : Option Addr} {n2 mc : Nat} {ta : Option Addr} {n3 tc : Nat} {ha : Option Addr} {nh hc sb : Nat} {pf pi told k xb : Nat} {ds : List Deferred} (L : List Value) (h : L = nthV L 0 :: (.slice va np vc) :: nthV L 2 :: nthV L 3 :: (.bool false) :: (.pointer (some ⟨gb, 0, none⟩)) :: (.bool true) :: (.int .i64 (i : Int)) :: nthV L 8 :: nthV L 9 :: (.slice la n1 lc) :: nthV L 11 :: nthV L 12 :: (.slice ma n2 mc) :: (.slice ta n3 tc) :: nthV L 15 :: (.slice ha nh hc) :: nthV L 17 :: (.pointer (some ⟨sb, 0, none⟩)) :: nthV L 19 :: (.int .i64 (pf : Int)) :: (.int .i64 (pi : Int)) :: (.int .i64 (told : Int)) :: (.int .i64 (k : Int)) :: (.pointer (some ⟨xb, 0, none⟩)) :: nthV L 25 :: nthV L 26 :: nthV L 27 :: nthV L 28 :: nthV L 29 :: nthV L 30 :: nthV L 31 :: nthV L 32 :: nthV L 33 :: nthV L 34 :: nthV L 35 :: nthV L 36 :: nthV L 37 :: nthV L 38 :: nthV L 39 :: nthV L 40 :: nthV L 41 :: nthV L 42 :: nthV L 43 :: nthV L 44 :: nthV L 45 :: nthV L 46 :: nthV L 47 :: nthV L 48 :: nthV L 49 :: nthV L 50 :: nthV L 51 :: nthV L 52 :: nthV L 53 :: nthV L 54 :: nthV L 55 :: nthV L 56 :: nthV L 57 :: nthV L 58 :: nthV L 59 :: nthV L 60 :: nthV L 61 :: nthV L 62 :: nthV L 63 :: nthV L 64 :: nthV L 65 :: nthV L 66 :: nthV L 67 :: nthV L 68 :: nthV L 69 :: nthV L 70 :: nthV L 71 :: nthV L 72 :: nthV L 73 :: nthV L 74 :: nthV L 75 :: nthV L 76 :: nthV L 77 :: nthV L 78 :: nthV L 79 :: nthV L 80 :: nthV L 81 :: nthV L 82 :: nthV L 83 :: nthV L 84 :: nthV L 85 :: nthV L 86 :: nthV L 87 :: nthV L 88 :: nthV L 89 :: nthV L 90 :: nthV L 91 :: nthV L 92 :: nthV L 93 :: nthV L 94 :: nthV L 95 :: nthV L 96 :: nthV L 97 :: nthV L 98 :: nthV L 99 :: nthV L 100 :: nthV L 101 :: nthV L 102 :: nthV L 103 :: nthV L 104 :: nthV L 105 :: nthV L 106 :: nthV L 107 :: nthV L 108 :: nthV L 109 :: nthV L 110 :: nthV L 111 :: nthV L 112 :: nthV L 113 :: nthV L 114 :: nthV L 115 :: nthV L 116 :: nthV L 117 :: nthV L 118 :: nthV L 119 :: nthV L 120 :: nthV L 121 :: nthV L 122 :: nthV L 123 :: nthV L 124 :: nthV L 125 :: nthV L 126 :: nthV L 127 :: nthV L 128 :: nthV L 129 :: nthV L 130 :: nthV L 131 :: nthV L 132 :: nthV L 133 :: nthV L 134 :: nthV L 135 :: nthV L 136 :: nthV L 137 :: nthV L 138 :: nthV L 139 :: nthV L 140 :: nthV L 141 :: nthV L 142 :: nthV L 143 :: nthV L 144 :: nthV L 145 :: nthV L 146 :: nthV L 147 :: nthV L 148 :: nthV L 149 :: nthV L 150 :: nthV L 151 :: nthV L 152 :: nthV L 153 :: nthV L 154 :: nthV L 155 :: nthV L 156 :: nthV L 157 :: nthV L 158 :: nthV L 159 :: nthV L 160 :: nthV L 161 :: nthV L 162 :: nthV L 163 :: nthV L 164 :: nthV L 165 :: nthV L 166 :: nthV L 167 :: nthV L 168 :: nthV L 169 :: nthV L 170 :: (.bool false) :: nthV L 172 :: nthV L 173 :: nthV L 174 :: nthV L 175 :: nthV L 176 :: nthV L 177 :: nthV L 178 :: nthV L 179 :: nthV L 180 :: nthV L 181 :: nthV L 182 :: nthV L 183 :: nthV L 184 :: nthV L 185 :: nthV L 186 :: nthV L 187 :: nthV L 188 :: nthV L 189 :: nthV L 190 :: nthV L 191 :: nthV L 192 :: nthV L 193 :: nthV L 194 :: nthV L 195 :: nthV L 196 :: nthV L 197 :: nthV L 198 :: nthV L 199 :: nthV L 200 :: nthV L 201 :: nthV L 202 :: nthV L 203 :: nthV L 204 :: nthV L 205 :: nthV L 206 :: nthV L 207 :: nthV L 208 :: nthV L 209 :: nthV L 210 :: nthV L 211 :: nthV L 212 :: nthV L 213 :: nthV L 214 :: nthV L 215 :: nthV L 216 :: nthV L 217 :: nthV L 218 :: nthV L 219 :: nthV L 220 :: nthV L 221 :: nthV L 222 :: nthV L 223 :: nthV L 224 :: nthV L 225 :: nthV L 226 :: nthV L 227 :: nthV L 228 :: nthV L 229 :: nthV L 230 :: nthV L 231 :: nthV L 232 :: nthV L 233 :: nthV L 234 :: nthV L 235 :: nthV L 236 :: nthV L 237 :: nthV L 238 :: nthV L 239 :: nthV L 240 :: nthV L 241 :: nthV L 242 :: nthV L 243 :: nthV L 244 :: nthV L 245 :: nthV L 246 :: nthV L 247 :: nthV L 248 :: nthV L 249 :: nthV L 250 :: nthV L 251 :: nthV L 252 :: nthV L 253 :: nthV L 254 :: nthV L 255 :: nthV L 256 :: nthV L 257 :: nthV L 258 :: nthV L 259 :: nthV L 260 :: nthV L 261 :: nthV L 262 :: nthV L 263 :: nthV L 264 :: nthV L 265 :: nthV L 266 :: nthV L 267 :: nthV L 268 :: nthV L 269 :: nthV L 270 :: nthV L 271 :: nthV L 272 :: nthV L 273 :: nthV L 274 :: nthV L 275 :: nthV L 276 :: nthV L 277 :: []) : PY va np vc gb i la n1 lc ma n2 mc ta n3 tc ha nh hc sb pf pi told k xb ds { tmps := L.toArray, defers := ds } := ⟨fun k => nthV L k, by rw [← h]⟩
set_option maxRecDepth 100000 in
def PJ (va : Option Addr) (np vc gb i : Nat) (la : Option Addr) (n1 lc : Nat) (ma : Option Addr) (n2 mc : Nat) (ta : Option Addr) (n3 tc : Nat) (ha : Option Addr) (nh hc sb : Nat) (pf pi told k xb j : Nat) (ds : List Deferred) (a : Act) : Prop := ∃ T : Nat → Value, a = { tmps := List.toArray (T 0 :: (.slice va np vc) :: T 2 :: T 3 :: (.bool false) :: (.pointer (some ⟨gb, 0, none⟩)) :: (.bool true) :: (.int .i64 (i : Int)) :: T 8 :: T 9 :: (.slice la n1 lc) :: T 11 :: T 12 :: (.slice ma n2 mc) :: (.slice ta n3 tc) :: T 15 :: (.slice ha nh hc) :: T 17 :: (.pointer (some ⟨sb, 0, none⟩)) :: T 19 :: (.int .i64 (pf : Int)) :: (.int .i64 (pi : Int)) :: (.int .i64 (told : Int)) :: (.int .i64 (k : Int)) :: (.pointer (some ⟨xb, 0, none⟩)) :: (.int .i64 (j : Int)) :: T 26 :: T 27 :: T 28 :: T 29 :: T 30 :: T 31 :: T 32 :: T 33 :: T 34 :: T 35 :: T 36 :: T 37 :: T 38 :: T 39 :: T 40 :: T 41 :: T 42 :: T 43 :: T 44 :: T 45 :: T 46 :: T 47 :: T 48 :: T 49 :: T 50 :: T 51 :: T 52 :: T 53 :: T 54 :: T 55 :: T 56 :: T 57 :: T 58 :: T 59 :: T 60 :: T 61 :: T 62 :: T 63 :: T 64 :: T 65 :: T 66 :: T 67 :: T 68 :: T 69 :: T 70 :: T 71 :: T 72 :: T 73 :: T 74 :: T 75 :: T 76 :: T 77 :: T 78 :: T 79 :: T 80 :: T 81 :: T 82 :: T 83 :: T 84 :: T 85 :: T 86 :: T 87 :: T 88 :: T 89 :: T 90 :: T 91 :: T 92 :: T 93 :: T 94 :: T 95 :: T 96 :: T 97 :: T 98 :: T 99 :: T 100 :: T 101 :: T 102 :: T 103 :: T 104 :: T 105 :: T 106 :: T 107 :: T 108 :: T 109 :: T 110 :: T 111 :: T 112 :: T 113 :: T 114 :: T 115 :: T 116 :: T 117 :: T 118 :: T 119 :: T 120 :: T 121 :: T 122 :: T 123 :: T 124 :: T 125 :: T 126 :: T 127 :: T 128 :: T 129 :: T 130 :: T 131 :: T 132 :: T 133 :: T 134 :: T 135 :: T 136 :: T 137 :: T 138 :: T 139 :: T 140 :: T 141 :: T 142 :: T 143 :: T 144 :: T 145 :: T 146 :: T 147 :: T 148 :: T 149 :: T 150 :: T 151 :: T 152 :: T 153 :: T 154 :: T 155 :: T 156 :: T 157 :: T 158 :: T 159 :: T 160 :: T 161 :: T 162 :: T 163 :: T 164 :: T 165 :: T 166 :: T 167 :: T 168 :: T 169 :: T 170 :: T 171 :: T 172 :: T 173 :: T 174 :: T 175 :: T 176 :: T 177 :: T 178 :: T 179 :: T 180 :: T 181 :: T 182 :: T 183 :: T 184 :: T 185 :: T 186 :: T 187 :: T 188 :: T 189 :: T 190 :: T 191 :: T 192 :: T 193 :: T 194 :: T 195 :: T 196 :: T 197 :: T 198 :: T 199 :: T 200 :: T 201 :: T 202 :: T 203 :: T 204 :: T 205 :: T 206 :: T 207 :: T 208 :: T 209 :: T 210 :: T 211 :: T 212 :: T 213 :: T 214 :: T 215 :: T 216 :: T 217 :: T 218 :: T 219 :: T 220 :: T 221 :: T 222 :: T 223 :: T 224 :: T 225 :: T 226 :: T 227 :: T 228 :: T 229 :: T 230 :: T 231 :: T 232 :: T 233 :: T 234 :: T 235 :: T 236 :: T 237 :: T 238 :: T 239 :: T 240 :: T 241 :: T 242 :: T 243 :: T 244 :: T 245 :: T 246 :: T 247 :: T 248 :: T 249 :: T 250 :: T 251 :: T 252 :: T 253 :: T 254 :: T 255 :: T 256 :: T 257 :: T 258 :: T 259 :: T 260 :: T 261 :: T 262 :: T 263 :: T 264 :: T 265 :: T 266 :: T 267 :: T 268 :: T 269 :: T 270 :: T 271 :: T 272 :: T 273 :: T 274 :: T 275 :: T 276 :: T 277 :: []), defers := ds }
set_option maxRecDepth 100000 in
theorem pJ_of {va : Option Addr} {np vc gb i : Nat} {la : Option Addr} {n1 lc : Nat} {ma : Option Addr} {n2 mc : Nat} {ta : Option Addr} {n3 tc : Nat} {ha : Option Addr} {nh hc sb : Nat} {pf pi told k xb j : Nat} {ds : List Deferred} (L : List Value) (h : L = nthV L 0 :: (.slice va np vc) :: nthV L 2 :: nthV L 3 :: (.bool false) :: (.pointer (some ⟨gb, 0, none⟩)) :: (.bool true) :: (.int .i64 (i : Int)) :: nthV L 8 :: nthV L 9 :: (.slice la n1 lc) :: nthV L 11 :: nthV L 12 :: (.slice ma n2 mc) :: (.slice ta n3 tc) :: nthV L 15 :: (.slice ha nh hc) :: nthV L 17 :: (.pointer (some ⟨sb, 0, none⟩)) :: nthV L 19 :: (.int .i64 (pf : Int)) :: (.int .i64 (pi : Int)) :: (.int .i64 (told : Int)) :: (.int .i64 (k : Int)) :: (.pointer (some ⟨xb, 0, none⟩)) :: (.int .i64 (j : Int)) :: nthV L 26 :: nthV L 27 :: nthV L 28 :: nthV L 29 :: nthV L 30 :: nthV L 31 :: nthV L 32 :: nthV L 33 :: nthV L 34 :: nthV L 35 :: nthV L 36 :: nthV L 37 :: nthV L 38 :: nthV L 39 :: nthV L 40 :: nthV L 41 :: nthV L 42 :: nthV L 43 :: nthV L 44 :: nthV L 45 :: nthV L 46 :: nthV L 47 :: nthV L 48 :: nthV L 49 :: nthV L 50 :: nthV L 51 :: nthV L 52 :: nthV L 53 :: nthV L 54 :: nthV L 55 :: nthV L 56 :: nthV L 57 :: nthV L 58 :: nthV L 59 :: nthV L 60 :: nthV L 61 :: nthV L 62 :: nthV L 63 :: nthV L 64 :: nthV L 65 :: nthV L 66 :: nthV L 67 :: nthV L 68 :: nthV L 69 :: nthV L 70 :: nthV L 71 :: nthV L 72 :: nthV L 73 :: nthV L 74 :: nthV L 75 :: nthV L 76 :: nthV L 77 :: nthV L 78 :: nthV L 79 :: nthV L 80 :: nthV L 81 :: nthV L 82 :: nthV L 83 :: nthV L 84 :: nthV L 85 :: nthV L 86 :: nthV L 87 :: nthV L 88 :: nthV L 89 :: nthV L 90 :: nthV L 91 :: nthV L 92 :: nthV L 93 :: nthV L 94 :: nthV L 95 :: nthV L 96 :: nthV L 97 :: nthV L 98 :: nthV L 99 :: nthV L 100 :: nthV L 101 :: nthV L 102 :: nthV L 103 :: nthV L 104 :: nthV L 105 :: nthV L 106 :: nthV L 107 :: nthV L 108 :: nthV L 109 :: nthV L 110 :: nthV L 111 :: nthV L 112 :: nthV L 113 :: nthV L 114 :: nthV L 115 :: nthV L 116 :: nthV L 117 :: nthV L 118 :: nthV L 119 :: nthV L 120 :: nthV L 121 :: nthV L 122 :: nthV L 123 :: nthV L 124 :: nthV L 125 :: nthV L 126 :: nthV L 127 :: nthV L 128 :: nthV L 129 :: nthV L 130 :: nthV L 131 :: nthV L 132 :: nthV L 133 :: nthV L 134 :: nthV L 135 :: nthV L 136 :: nthV L 137 :: nthV L 138 :: nthV L 139 :: nthV L 140 :: nthV L 141 :: nthV L 142 :: nthV L 143 :: nthV L 144 :: nthV L 145 :: nthV L 146 :: nthV L 147 :: nthV L 148 :: nthV L 149 :: nthV L 150 :: nthV L 151 :: nthV L 152 :: nthV L 153 :: nthV L 154 :: nthV L 155 :: nthV L 156 :: nthV L 157 :: nthV L 158 :: nthV L 159 :: nthV L 160 :: nthV L 161 :: nthV L 162 :: nthV L 163 :: nthV L 164 :: nthV L 165 :: nthV L 166 :: nthV L 167 :: nthV L 168 :: nthV L 169 :: nthV L 170 :: nthV L 171 :: nthV L 172 :: nthV L 173 :: nthV L 174 :: nthV L 175 :: nthV L 176 :: nthV L 177 :: nthV L 178 :: nthV L 179 :: nthV L 180 :: nthV L 181 :: nthV L 182 :: nthV L 183 :: nthV L 184 :: nthV L 185 :: nthV L 186 :: nthV L 187 :: nthV L 188 :: nthV L 189 :: nthV L 190 :: nthV L 191 :: nthV L 192 :: nthV L 193 :: nthV L 194 :: nthV L 195 :: nthV L 196 :: nthV L 197 :: nthV L 198 :: nthV L 199 :: nthV L 200 :: nthV L 201 :: nthV L 202 :: nthV L 203 :: nthV L 204 :: nthV L 205 :: nthV L 206 :: nthV L 207 :: nthV L 208 :: nthV L 209 :: nthV L 210 :: nthV L 211 :: nthV L 212 :: nthV L 213 :: nthV L 214 :: nthV L 215 :: nthV L 216 :: nthV L 217 :: nthV L 218 :: nthV L 219 :: nthV L 220 :: nthV L 221 :: nthV L 222 :: nthV L 223 :: nthV L 224 :: nthV L 225 :: nthV L 226 :: nthV L 227 :: nthV L 228 :: nthV L 229 :: nthV L 230 :: nthV L 231 :: nthV L 232 :: nthV L 233 :: nthV L 234 :: nthV L 235 :: nthV L 236 :: nthV L 237 :: nthV L 238 :: nthV L 239 :: nthV L 240 :: nthV L 241 :: nthV L 242 :: nthV L 243 :: nthV L 244 :: nthV L 245 :: nthV L 246 :: nthV L 247 :: nthV L 248 :: nthV L 249 :: nthV L 250 :: nthV L 251 :: nthV L 252 :: nthV L 253 :: nthV L 254 :: nthV L 255 :: nthV L 256 :: nthV L 257 :: nthV L 258 :: nthV L 259 :: nthV L 260 :: nthV L 261 :: nthV L 262 :: nthV L 263 :: nthV L 264 :: nthV L 265 :: nthV L 266 :: nthV L 267 :: nthV L 268 :: nthV L 269 :: nthV L 270 :: nthV L 271 :: nthV L 272 :: nthV L 273 :: nthV L 274 :: nthV L 275 :: nthV L 276 :: nthV L 277 :: []) : PJ va np vc gb i la n1 lc ma n2 mc ta n3 tc ha nh hc sb pf pi told k xb j ds { tmps := L.toArray, defers := ds } := ⟨fun k => nthV L k, by rw [← h]⟩
theorem fnil_G (f : Nat) (bs : Array Value) (w : World) : (binOp .eql 41 (.func (.func f) #[] bs) .nilFunc).run Try.prog w = .ok (.bool false) w := by
  have h : ∀ d : Nat, (Op.equalIn (d + 1) 41 (.func (.func f) #[] bs) .nilFunc).run Try.prog w = .ok false w := fun d => by
    simp [Op.equalIn, run_underlying Try.underlying41]
  simp only [binOp]
  simp [Op.equal, Op.maxDepth, h 9999]
attribute [local go_sem] fnil_G
/-- Between two rounds of the loop. -/
def PO (va : Option Addr) (np vc gb : Nat) (w1 : World) (a' : Act) (w' : World) : Prop :=
  ∃ (i : Nat) (Ds : List Nat), PF va np vc gb i (marksR Ds) a' ∧ i ≤ np ∧ Hid (Kept w1 w') ∧ Hid (Ds.Nodup ∧ ∀ D, D ∈ Ds → w1.heap.size ≤ D ∧ w'.heap[D]? = some (.deferred (some [])))
/-- While the spans are put into a list. -/
def SpI (w7 : World) (sb : Nat) (T : Nat → Prop) (pre : List (Nat × Nat)) (W : World) : Prop :=
  (∀ k, T k → w7.heap.size ≤ k) ∧ KeptBut sb w7 W ∧ ∃ v, W.heap[sb]? = some (.cells #[v] 43 (0, 0)) ∧ LO spE W w7.heap.size v pre ∧ ∀ d, v.ownBlock = some d → ¬ T d
theorem SpI.stable {w7 : World} {sb : Nat} (hs : sb < w7.heap.size) : StableW (SpI w7 sb) := by
  rintro T T' s A A' ⟨g1, g2, v, g5, g6, g7⟩ h
  have hn : ∀ k, k < w7.heap.size → ¬ T k := fun k hk h => by have := g1 k h; omega
  have hA := g2.2.2.2.1
  have hst : ∀ k, k < w7.heap.size → A'.heap[k]? = A.heap[k]? := fun k hk => h.2.2.2.2.1 k (by omega) (hn k hk)
  refine ⟨fun k hk => ?_, ⟨h.1.trans g2.1, h.2.1.trans g2.2.1, h.2.2.1.trans g2.2.2.1, Nat.le_trans g2.2.2.2.1 h.2.2.2.1, fun k a b => (hst k a).trans (g2.2.2.2.2 k a b)⟩, v, (hst sb hs).trans g5, g6.same (fun d hd => h.2.2.2.2.1 d (g6.lt' d hd).2 (g7 d hd)), fun d hd ht => ?_⟩
  · rcases h.2.2.2.2.2 k hk with h | h
    · exact g1 k h
    · omega
  · rcases h.2.2.2.2.2 d ht with h | h
    · exact g7 d hd h
    · have := (g6.lt' d hd).2
      omega
theorem sp_fin {w7 W W' : World} {X : Nat → Prop} {sb : Nat} {T : Nat → Prop} {pre : List (Nat × Nat)} {x : Nat × Nat} {v v9 : Value} (hsb : sb < w7.heap.size) (hX : ∀ k, X k → k < sb) (g1 : ∀ k, T k → w7.heap.size ≤ k) (g2 : KeptBut sb w7 W) (g6 : LO spE W w7.heap.size v pre) (g7 : ∀ d, v.ownBlock = some d → ¬ T d) (hT : ∀ k, T k → k < W.heap.size) (hp : Push spE W W' sb w7.heap.size 43 v v9 (pre ++ [x])) :
    W.heap.size ≤ W'.heap.size ∧ (∀ k, T k → W'.heap[k]? = W.heap[k]?) ∧ KX X W W' ∧ SpI w7 sb T (pre ++ [x]) W' := by
  have hs := hp.kt.2.2.2.1
  have h0 := g2.2.2.2.1
  have ho : ∀ d, v.ownBlock = some d → w7.heap.size ≤ d ∧ d < W.heap.size := g6.lt'
  have hall : ∀ k, k < W.heap.size → k ≠ sb → v.ownBlock ≠ some k → W'.heap[k]? = W.heap[k]? := fun k hk a b => hp.kt.2.2.2.2 k hk (fun e => e.elim a b)
  have hlow : ∀ k, k < w7.heap.size → k ≠ sb → W'.heap[k]? = W.heap[k]? := fun k hk a => hall k (by omega) a (fun e => by have := ho k e; omega)
  refine ⟨hs, fun k hk => hall k (hT k hk) (by have := g1 k hk; omega) (fun e => g7 k e hk), ⟨hs, fun k hk => by have := hX k hk; exact hlow k (by omega) (by omega)⟩, g1, ⟨hp.kt.1.trans g2.1, hp.kt.2.1.trans g2.2.1, hp.kt.2.2.1.trans g2.2.2.1, by omega, fun k a b => (hlow k a b).trans (g2.2.2.2.2 k a b)⟩, v9, hp.box, hp.lo, fun d hd ht => ?_⟩
  have := hT d ht
  rcases hp.own d hd with h | h
  · exact g7 d h ht
  · omega
/-- What is read while the gaps are gone through. -/
structure GpS (l1 l2 bl : List Int) (hs : List Hk) (xs : List (Nat × Nat)) (la ma ta ha sa : Option Addr) (sb ns sc : Nat) (w : World) : Prop where
  c1 : ∀ (k : Nat) (y : Int), l1[k]? = some y → ∃ g, la = some ⟨g, 0, none⟩ ∧ w.cell? ⟨g, k, none⟩ = some (.int .i64 y)
  c2 : ∀ (k : Nat) (y : Int), l2[k]? = some y → ∃ g, ma = some ⟨g, 0, none⟩ ∧ w.cell? ⟨g, k, none⟩ = some (.int .i64 y)
  c3 : ∀ (k : Nat) (y : Int), bl[k]? = some y → ∃ g, ta = some ⟨g, 0, none⟩ ∧ w.cell? ⟨g, k, none⟩ = some (.int .i64 y)
  ch : ∀ (k : Nat) (h : Hk), hs[k]? = some h → ∃ g, ha = some ⟨g, 0, none⟩ ∧ w.cell? ⟨g, k * 4, none⟩ = some (.int .i64 (h.fr : Int)) ∧ w.cell? ⟨g, k * 4 + 1, none⟩ = some (.int .i64 (h.to_ : Int)) ∧ w.cell? ⟨g, k * 4 + 2, none⟩ = some (.int .i64 (h.into : Int)) ∧ w.cell? ⟨g, k * 4 + 3, none⟩ = some (.int .i64 (h.upto : Int))
  cs : w.cell? ⟨sb, 0, none⟩ = some (.slice sa ns sc)
  cx : ∀ (k : Nat) (x : Nat × Nat), xs[k]? = some x → ∃ g, sa = some ⟨g, 0, none⟩ ∧ w.cell? ⟨g, k * 2, none⟩ = some (.int .i64 (x.1 : Int)) ∧ w.cell? ⟨g, k * 2 + 1, none⟩ = some (.int .i64 (x.2 : Int))
theorem GpS.keep {l1 l2 bl : List Int} {hs : List Hk} {xs : List (Nat × Nat)} {la ma ta ha sa : Option Addr} {sb ns sc : Nat} {w w' : World} (h : GpS l1 l2 bl hs xs la ma ta ha sa sb ns sc w) (hk : Kept w w') : GpS l1 l2 bl hs xs la ma ta ha sa sb ns sc w' := by
  refine ⟨fun k y hy => ?_, fun k y hy => ?_, fun k y hy => ?_, fun k y hy => ?_, grown_cell hk h.cs, fun k y hy => ?_⟩
  · obtain ⟨g, e, c⟩ := h.c1 k y hy
    exact ⟨g, e, grown_cell hk c⟩
  · obtain ⟨g, e, c⟩ := h.c2 k y hy
    exact ⟨g, e, grown_cell hk c⟩
  · obtain ⟨g, e, c⟩ := h.c3 k y hy
    exact ⟨g, e, grown_cell hk c⟩
  · obtain ⟨g, e, c0, c1, c2, c3⟩ := h.ch k y hy
    exact ⟨g, e, grown_cell hk c0, grown_cell hk c1, grown_cell hk c2, grown_cell hk c3⟩
  · obtain ⟨g, e, c0, c1⟩ := h.cx k y hy
    exact ⟨g, e, grown_cell hk c0, grown_cell hk c1⟩
theorem lo_hk {w : World} {base : Nat} {a : Option Addr} {L c : Nat} {l : List Hk} (h : LO hkE w base (.slice a L c) l) {k : Nat} {x : Hk} (hx : l[k]? = some x) : ∃ g, a = some ⟨g, 0, none⟩ ∧ w.cell? ⟨g, k * 4, none⟩ = some (.int .i64 (x.fr : Int)) ∧ w.cell? ⟨g, k * 4 + 1, none⟩ = some (.int .i64 (x.to_ : Int)) ∧ w.cell? ⟨g, k * 4 + 2, none⟩ = some (.int .i64 (x.into : Int)) ∧ w.cell? ⟨g, k * 4 + 3, none⟩ = some (.int .i64 (x.upto : Int)) := by
  obtain ⟨g, rfl⟩ := h.some (by intro e; rw [e] at hx; simp at hx)
  exact ⟨g, rfl, h.cell (i := k) (j := 0) hx rfl, h.cell (i := k) (j := 1) hx rfl, h.cell (i := k) (j := 2) hx rfl, h.cell (i := k) (j := 3) hx rfl⟩
theorem lo_sp {w : World} {base : Nat} {a : Option Addr} {L c : Nat} {l : List (Nat × Nat)} (h : LO spE w base (.slice a L c) l) {k : Nat} {x : Nat × Nat} (hx : l[k]? = some x) : ∃ g, a = some ⟨g, 0, none⟩ ∧ w.cell? ⟨g, k * 2, none⟩ = some (.int .i64 (x.1 : Int)) ∧ w.cell? ⟨g, k * 2 + 1, none⟩ = some (.int .i64 (x.2 : Int)) := by
  obtain ⟨g, rfl⟩ := h.some (by intro e; rw [e] at hx; simp at hx)
  exact ⟨g, rfl, h.cell (i := k) (j := 0) hx rfl, h.cell (i := k) (j := 1) hx rfl⟩
/-- Between two rounds of the loop over the hunks. -/
def GpO (va : Option Addr) (np vc gb i : Nat) (la : Option Addr) (n1 lc : Nat) (ma : Option Addr) (n2 mc : Nat) (ta : Option Addr) (n3 tc : Nat) (ha : Option Addr) (nh hc sb : Nat) (N : Nat → Nd) (b ns : Nat) (l1 l2 : List Int) (hs : List Hk) (Ds : List Nat) (wS : World) (a' : Act) (w' : World) : Prop :=
  ∃ pf pi told k : Nat, PK va np vc gb i la n1 lc ma n2 mc ta n3 tc ha nh hc sb pf pi told k (marksR Ds) a' ∧ k ≤ nh + 1 ∧ pf ≤ n1 ∧ pi ≤ n2 ∧ told ≤ ns ∧ Hid (Kept wS w') ∧ Hid ((k ≤ nh → told = toldN N b (hs.take k) ∧ GapOk l1 l2 (hs.drop k) pf pi (decide (k = 0))) ∧ (k = nh + 1 → pf = n1 ∧ pi = n2 ∧ told = ns))
theorem kept4 {wk wx : World} {xb : Nat} (hk : Kept wk wx) (hx : wk.heap.size ≤ xb) (a b c d : Value) : Kept wk ((((wx.setCell ⟨xb, 0, none⟩ a).setCell ⟨xb, 1, none⟩ b).setCell ⟨xb, 2, none⟩ c).setCell ⟨xb, 3, none⟩ d) :=
  KeptBut.new (KeptBut.new (KeptBut.new (KeptBut.new hk (setCell_but _ _ _ _) hx) (setCell_but _ _ _ _) hx) (setCell_but _ _ _ _) hx) (setCell_but _ _ _ _) hx
theorem box4 {w : World} {xb : Nat} {a b c d : Value} {t : TypeId} (h : w.heap[xb]? = some (.cells #[a, b, c, d] t (0, 0))) : w.cell? ⟨xb, 0, none⟩ = some a ∧ w.cell? ⟨xb, 1, none⟩ = some b ∧ w.cell? ⟨xb, 2, none⟩ = some c ∧ w.cell? ⟨xb, 3, none⟩ = some d ∧ w.frozen? ⟨xb, 0, none⟩ = false ∧ w.frozen? ⟨xb, 1, none⟩ = false ∧ w.frozen? ⟨xb, 2, none⟩ = false ∧ w.frozen? ⟨xb, 3, none⟩ = false := by
  refine ⟨?_, ?_, ?_, ?_, ?_, ?_, ?_, ?_⟩ <;> simp [World.cell?, World.frozen?, h]
/-- Between two rounds of the loop over a gap. -/
def GjO (va : Option Addr) (np vc gb i : Nat) (la : Option Addr) (n1 lc : Nat) (ma : Option Addr) (n2 mc : Nat) (ta : Option Addr) (n3 tc : Nat) (ha : Option Addr) (nh hc sb pf pi told k xb d : Nat) (Ds : List Nat) (wS : World) (a' : Act) (w' : World) : Prop :=
  ∃ j : Nat, PJ va np vc gb i la n1 lc ma n2 mc ta n3 tc ha nh hc sb pf pi told k xb j (marksR Ds) a' ∧ j ≤ d ∧ Hid (Kept wS w')
theorem span_len {N : Nat → Nd} {a b : Nat} : (spansL N a b).length ≤ (hunksL N a b).length := by
  unfold spansL spF
  refine Nat.le_trans (List.length_filter_le _ _) ?_
  rw [List.length_map, List.length_map]
  exact Nat.le_refl _
set_option linter.unusedSimpArgs false in
set_option maxRecDepth 100000 in
set_option maxHeartbeats 8000000 in
theorem lawGaps (v0 v1 : Value) (ps : List (Int × Int)) (w : World) (hGr : ∀ W, Kept w W → Calls Try.prog 6 #[v0] W (GroveOut W)) (h1 : PairsIn w v1 ps) :
    Calls Try.prog 3 #[v0, v1] w fun e w' => e = .returned (.bool true) ∧ Kept w w' := by
  obtain ⟨np, hnp⟩ : ∃ n, ps.length = n := ⟨_, rfl⟩
  obtain ⟨pa, pc, rfl, hp1, hp2⟩ : ∃ a c, v1 = .slice a np c ∧ np ≤ c ∧ np ≤ 17592186044416 := by
    obtain ⟨a, c, h2, h3, h4, _⟩ := h1
    rw [hnp] at h2 h3 h4
    exact ⟨a, c, h2, h3, h4⟩
  have HPS := hide1 h1
  have HNP := hide1 hnp
  have HGR := hide1 hGr
  have hpI : (np : Int) ≤ (pc : Int) := by omega
  have hpI2 : (np : Int) ≤ 17592186044416 := by omega
  clear h1 hnp hGr hp1 hp2
  refine (callsIn_wide (n := 9)).1 ?_
  refine callsIn_of_wp_marks Try.func3 rfl trivial ?_ rfl
  simp only [Try.ntmps3, List.size_toArray, List.length_cons, List.length_nil, Nat.reduceAdd, Nat.reduceSub, Array.replicate_succ, Array.replicate_zero, List.push_toArray, List.append_toArray, List.nil_append, List.cons_append]
  refine (wpIn_wide (n := 9)).2 ?_
  go_wp2_with (go_at_call 6; refine (HGR.out _ (Kept.refl w)).mono ?_; rintro e w1 ⟨gb, base, s, rfl, hI, hk1, hr1, hr2⟩; have HI := hide1 hI; have HK1 := hide1 hk1; clear hI hk1)
  obtain ⟨V, P, Q, N, X, vN, vP, hM, hT, hPi⟩ := HI.out
  obtain ⟨pn, hpn⟩ : ∃ pn, P.length = pn := ⟨_, rfl⟩
  have hqn : Q.length = pn := by rw [← hT.1]; exact hpn
  obtain ⟨aN, cN, rfl⟩ : ∃ a c, vN = .slice a pn c := by rw [← hpn]; exact hM.nl.form
  obtain ⟨aP, cP, rfl⟩ : ∃ a c, vP = .slice a pn c := by rw [← hqn]; exact hM.pl.form
  rw [hpn] at hM hPi
  have HM := hide1 hM
  have HT := hide1 hT
  have HPN := hide1 hpn
  have HQN := hide1 hqn
  have hpnI : (pn : Int) ≤ 200 := by omega
  have HGX : Hid (∀ W, Kept w1 W → W.cell? ⟨gb, 1, none⟩ = some (.slice aN pn cN)) := fun W hW => by
    have h9 := (HM.out.keep hW).box
    simp [World.cell?, h9]
  have HPX : Hid (∀ W, Kept w1 W → PairsIn W (.slice pa np pc) ps) := fun W hW => HPS.out.keep (gtrans HK1.out hW)
  clear hM hT hpn hqn HI HGR hr1 hr2 hPi
  refine wp_loop (PO pa np pc gb w1) (fun a' _ => np - (intOf (a'.tmps.getD 7 undef)).toNat) ?_ ?_
  · exact ⟨0, [], pF_of _ (by kernel_rfl), Nat.zero_le _, Kept.refl w1, List.nodup_nil, fun D hD => by simp at hD⟩
  · rintro a' wr ⟨i, Ds, ⟨T, rfl⟩, hi, HKR, HDS⟩
    have y1 := HGX.out wr HKR.out
    by_cases hgo : i < np ∧ 0 < pn
    · obtain ⟨hi1, hp1⟩ := hgo
      obtain ⟨x, hx⟩ : ∃ x, ps[i]? = some x := ⟨_, List.getElem?_eq_getElem (by rw [HNP.out]; exact hi1)⟩
      obtain ⟨pg, po, rfl, t0, t1⟩ := (HPX.out wr HKR.out).at' hx
      obtain ⟨x0, x1⟩ := x
      dsimp only at t0 t1
      have HV0 : Hid (∀ W, Calls Try.prog 7 #[.int .i64 x0, .int .i64 (pn : Int)] W fun e w' => e = .returned (.int .i64 (wiN x0 pn : Int)) ∧ w' = W) := fun W => withinD_is x0 pn W hp1 (by omega)
      have HV1 : Hid (∀ W, Calls Try.prog 7 #[.int .i64 x1, .int .i64 (pn : Int)] W fun e w' => e = .returned (.int .i64 (wiN x1 pn : Int)) ∧ w' = W) := fun W => withinD_is x1 pn W hp1 (by omega)
      have hra := wiN_lt x0 hp1
      have hrb := wiN_lt x1 hp1
      obtain ⟨ra, hra2⟩ : ∃ r, wiN x0 pn = r := ⟨_, rfl⟩
      obtain ⟨r9, hrb2⟩ : ∃ r, wiN x1 pn = r := ⟨_, rfl⟩
      rw [hra2] at HV0 hra
      rw [hrb2] at HV1 hrb
      have hi1I : (i : Int) < (np : Int) := by omega
      have hp1I : (0 : Int) < (pn : Int) := by omega
      have hraI : (ra : Int) < (pn : Int) := by omega
      have hrbI : (r9 : Int) < (pn : Int) := by omega
      obtain ⟨a, ha⟩ : ∃ b, P[ra]? = some b := ⟨_, List.getElem?_eq_getElem (by rw [HPN.out]; exact hra)⟩
      obtain ⟨b, hb⟩ : ∃ b, P[r9]? = some b := ⟨_, List.getElem?_eq_getElem (by rw [HPN.out]; exact hrb)⟩
      obtain ⟨da, hda⟩ : ∃ b, Q[ra]? = some b := ⟨_, List.getElem?_eq_getElem (by rw [HQN.out]; exact hra)⟩
      obtain ⟨db, hdb⟩ : ∃ b, Q[r9]? = some b := ⟨_, List.getElem?_eq_getElem (by rw [HQN.out]; exact hrb)⟩
      have hMz := HM.out.keep HKR.out
      obtain ⟨gN, gP, rfl, rfl, u1, _⟩ := gr_read hMz ha hda
      obtain ⟨gN', gP', hgN', hgP', u3, _⟩ := gr_read hMz hb hdb
      injection hgN' with hgN'
      injection hgN' with hgN'
      subst hgN'
      have HFO : Hid (∀ W, Kept wr W → Forest (fun b => b ∈ P) N wr.heap.size W) := fun W hW => (gr_forest hMz HT.out).kb (hW.kb (Nat.le_refl _))
      have HAB : Hid (LeafSum N (fun b => b ∈ P) ∧ NumOk (fun b => b ∈ P) N ∧ a ∈ P ∧ b ∈ P) := ⟨gr_sum HT.out, gr_num HT.out (by rw [HPN.out]; omega), List.mem_of_getElem? ha, List.mem_of_getElem? hb⟩
      clear hx hra2 hrb2 hMz ha hb hda hdb hgP'
      go_upto_region 5 with fail
      go_quiet ((go_at_call 7; exact Calls.quiet_of_same (HV0.out _)))
      obtain ⟨wq, hwq⟩ : ∃ wq, wr.drewN nq = wq := ⟨_, rfl⟩
      have hkq : Kept wr wq := by rw [← hwq]; exact drewN_kept _ _
      rw [hwq]
      have y1' := grown_cell hkq y1
      have t1' := grown_cell hkq t1
      have u3' := grown_cell hkq u3
      have HKq := hide1 hkq
      clear hwq y1 t0 t1 u1 u3 hkq nq
      go_upto_region 6 with fail
      go_quiet ((go_at_call 7; exact Calls.quiet_of_same (HV1.out _)))
      obtain ⟨wz, hwz⟩ : ∃ wz, wq.drewN nq = wz := ⟨_, rfl⟩
      have hkz : Kept wq wz := by rw [← hwz]; exact drewN_kept _ _
      rw [hwz]
      have HKZ : Hid (Kept wr wz) := gtrans HKq.out hkz
      clear hwz y1' t1' u3' hkz nq HKq HV0 HV1
      go_upto_region 8 with (go_at_call 8; refine (leavesG_is (fun b => b ∈ P) N wr.heap.size a wz (HFO.out _ HKZ.out) HAB.out.1 HAB.out.2.2.1 HKZ.out.size).mono ?_; rintro e w2 ⟨v1, v1', rfl, ho1, _, hk2⟩; have HO1 := hide1 ho1; have HK2 : Hid (Kept wr w2) := gtrans HKZ.out hk2; clear ho1 hk2)
      go_upto_region 9 with (go_at_call 8; refine (leavesG_is (fun b => b ∈ P) N wr.heap.size b w2 (HFO.out _ HK2.out) HAB.out.1 HAB.out.2.2.2 HK2.out.size).mono ?_; rintro e w3 ⟨v2, v3, rfl, ho2, ho3, hk3⟩; have HO2 := hide1 ho2; have HO3 := hide1 ho3; have HK23 := hide1 hk3; have HK3 : Hid (Kept wr w3) := gtrans HK2.out hk3; clear ho2 ho3 hk3)
      go_upto_region 10 with (go_at_call 9; refine (leavesD_is (fun b => b ∈ P) N wr.heap.size a b w3 (HFO.out _ HK3.out) HAB.out.1 HAB.out.2.1 HAB.out.2.2.1 HAB.out.2.2.2 HK3.out.size).mono ?_; rintro e w4 ⟨v4, rfl, ho4, hk4⟩; have HO4 := hide1 ho4; have HK34 := hide1 hk4; have HK4 : Hid (Kept wr w4) := gtrans HK3.out hk4; clear ho4 hk4)
      go_upto_region 11 with (go_at_call 10; refine (rangesD_is (fun b => b ∈ P) N wr.heap.size a b w4 (HFO.out _ HK4.out) HAB.out.2.1 HAB.out.2.2.1 HAB.out.2.2.2 HK4.out.size).mono ?_; rintro e w5 ⟨ab, bb, pb, mb, n, rb, rfl, hP5, hR5, hk5, h51, h52, h53, h54, h55⟩; have HP5 := hide1 hP5; have HR5 := hide1 hR5; have HK45 := hide1 hk5; have HK5 : Hid (Kept wr w5) := gtrans HK4.out hk5; have HL5 := hide1 (And.intro h51 (And.intro h52 (And.intro h53 (And.intro h54 h55)))); clear hP5 hR5 hk5 h51 h52 h53 h54 h55)
      obtain ⟨l1, hl1⟩ : ∃ l, numL N (lvs N a) = l := ⟨_, rfl⟩
      obtain ⟨l2, hl2⟩ : ∃ l, numL N (lvs N b) = l := ⟨_, rfl⟩
      obtain ⟨hs, hhs⟩ : ∃ l, hunksL N a b = l := ⟨_, rfl⟩
      obtain ⟨n1, hn1⟩ : ∃ n, l1.length = n := ⟨_, rfl⟩
      obtain ⟨n2, hn2⟩ : ∃ n, l2.length = n := ⟨_, rfl⟩
      obtain ⟨nh, hnh⟩ : ∃ n, hs.length = n := ⟨_, rfl⟩
      have hlvb : (lvs N b).length = n2 := by rw [← hn2, ← hl2]; unfold numL; rw [List.length_map]
      have hn3 : (begL N b).length = n2 + 1 := by rw [begL_len, hlvb]
      have hb1 : n1 ≤ 4194304 := by rw [← hn1, ← hl1]; unfold numL; rw [List.length_map]; exact lvs_len (HFO.out _ HKZ.out) HAB.out.2.2.1
      have hb2 : n2 ≤ 4194304 := by rw [← hlvb]; exact lvs_len (HFO.out _ HKZ.out) HAB.out.2.2.2
      have hbh : nh ≤ 4194305 := by
        have h1 := hks_len l1.length l2.length (pairsL l1 l2) 0 0
        have h2 := cnt_len l1 l2 l1 0 0
        rw [← hnh, ← hhs]
        unfold hunksL
        rw [hl1, hl2]
        unfold pairsL at *
        omega
      have hgap : GapOk l1 l2 hs 0 0 true := by
        have h9 := gap_all l1 l2
        rw [← hl1, ← hl2] at h9 ⊢
        rw [← hhs]
        exact h9
      rw [hl1] at HO1
      rw [hl2] at HO2
      rw [hhs] at HO4
      obtain ⟨la, lc, rfl⟩ : ∃ x c, v1 = .slice x n1 c := by rw [← hn1]; exact HO1.out.form
      obtain ⟨ma, mc, rfl⟩ : ∃ x c, v2 = .slice x n2 c := by rw [← hn2]; exact HO2.out.form
      obtain ⟨ta, tc, rfl⟩ : ∃ x c, v3 = .slice x (n2 + 1) c := by rw [← hn3]; exact HO3.out.form
      obtain ⟨ha, hc, rfl⟩ : ∃ x c, v4 = .slice x nh c := by rw [← hnh]; exact HO4.out.form
      obtain ⟨n3, hn3'⟩ : ∃ n, n2 + 1 = n := ⟨_, rfl⟩
      rw [hn3'] at HO3 ⊢
      have HLL : Hid (numL N (lvs N a) = l1 ∧ numL N (lvs N b) = l2 ∧ hunksL N a b = hs ∧ l1.length = n1 ∧ l2.length = n2 ∧ hs.length = nh ∧ n2 + 1 = n3 ∧ (lvs N b).length = n2) := ⟨hl1, hl2, hhs, hn1, hn2, hnh, hn3', hlvb⟩
      have HGAP := hide1 hgap
      clear hl1 hl2 hhs hn1 hn2 hnh hlvb hn3 hgap hn3'
      obtain ⟨sb, hsb⟩ : ∃ sb, w5.heap.size = sb := ⟨_, rfl⟩
      obtain ⟨w7, hw7⟩ : ∃ w7, w5.alloc (.cells #[.slice none 0 0] 43) = w7 := ⟨_, rfl⟩
      have hk57 : Kept w5 w7 := by rw [← hw7]; exact (Kept.refl w5).alloc _ _
      have HS7 : Hid (w5.heap.size = sb ∧ w7.heap.size = sb + 1 ∧ w7.heap[sb]? = some (.cells #[.slice none 0 0] 43 (0, 0))) := ⟨hsb, by rw [← hw7, World.size_alloc, hsb], by rw [← hw7, ← hsb]; exact World.alloc_heap_new w5 _⟩
      have HW7 := hide1 hw7
      have HK57 := hide1 hk57
      have HSB := hide1 hsb
      clear hw7 hk57 hsb
      go_wp2_with fail
      rw [HW7.out, HSB.out]
      have hs7 := HS7.out
      have hpl := HP5.out.lt
      have hrl := (Array.getElem?_eq_some_iff.1 HR5.out).1
      have hsz5 := HK5.out.size
      have hX7 : ∀ k, rX wr.heap.size ab bb pb mb rb k → k < sb := fun k hk => by rcases hk with (h | rfl | rfl | rfl | rfl) | rfl <;> omega
      have hP7 : PBox w7 a b ab bb pb mb n (pairF (numL N (lvs N a)) (numL N (lvs N b))) := HP5.out.kx (B := 0) ⟨HK57.out.size, fun k hk' => HK57.out.2.2.2.2 k (by rcases hk' with h | rfl | rfl | rfl | rfl <;> omega)⟩
      have hR7 : RBox w7 rb ab bb pb := (HK57.out.2.2.2.2 rb hrl).trans HR5.out
      have hseq := ranges_seq 8 (by omega) (fun b => b ∈ P) N wr.heap.size a b ab bb pb mb n rb w7 (HFO.out _ (gtrans HK5.out HK57.out)) HAB.out.1 HAB.out.2.1 HAB.out.2.2.1 HAB.out.2.2.2 (by omega) hP7 hR7
      obtain ⟨xs, hxs⟩ : ∃ xs, spansL N a b = xs := ⟨_, rfl⟩
      have hlx : xs.length ≤ 4194305 := by
        have h1 := span_len (N := N) (a := a) (b := b)
        rw [hxs, HLL.out.2.2.1] at h1
        have h2 := HLL.out.2.2.2.2.2.1
        omega
      rw [hxs] at hseq
      have HSEQ := hide1 hseq
      have HX7 := hide1 hX7
      have HXS := hide1 hxs
      have HI0 : Hid (SpI w7 sb (fun _ => False) [] w7) := ⟨fun _ h => h.elim, (Kept.refl w7).tbut sb, .slice none 0 0, hs7.2.2, LO.nil _ _, fun d hd => (by cases hd)⟩
      clear hseq hX7 hxs hP7 hR7 hpl hrl hsz5 hs7
      refine frameR (pG_of (va := some ⟨pg, po, none⟩) (np := np) (vc := pc) (gb := gb) (i := i) (la := la) (n1 := n1) (lc := lc) (ma := ma) (n2 := n2) (mc := mc) (ta := ta) (n3 := n3) (tc := tc) (ha := ha) (nh := nh) (hc := hc) (sb := sb) (fv := (.func (.func 34) #[] #[.pointer (some ⟨rb, 0, none⟩)])) _ (by kernel_rfl)) ?_
      rintro a' ⟨T, rfl⟩
      refine (wpIn_wide (n := 9)).1 ?_
      refine range_A rfl (by omega) (gf := 34) (lb := #[.pointer (some ⟨rb, 0, none⟩)]) rfl trivial (enters_of Try.func34 (by kernel_rfl) rfl) HSEQ.out ?kp KX.trans (fun _ => rfl)
        (SpI w7 sb) (fun _ _ _ _ => False) (SpI.stable (by have := HS7.out; omega)) (fun _ _ _ _ _ _ h _ => h.elim) HI0.out
        (fun x W => W.alloc (.cells #[.int .i64 (x.1 : Int), .int .i64 (x.2 : Int)] 45)) (fun x W => (Kept.refl W).alloc _ _)
        (fun x W9 => { tmps := List.toArray (T 0 :: (.slice (some ⟨pg, po, none⟩) np pc) :: T 2 :: T 3 :: (.bool false) :: (.pointer (some ⟨gb, 0, none⟩)) :: (.bool true) :: (.int .i64 (i : Int)) :: T 8 :: T 9 :: (.slice la n1 lc) :: T 11 :: T 12 :: (.slice ma n2 mc) :: (.slice ta n3 tc) :: T 15 :: (.slice ha nh hc) :: T 17 :: (.pointer (some ⟨sb, 0, none⟩)) :: (.pointer (some ⟨W9.heap.size, 0, none⟩)) :: T 20 :: T 21 :: T 22 :: T 23 :: T 24 :: T 25 :: T 26 :: T 27 :: T 28 :: T 29 :: T 30 :: T 31 :: T 32 :: T 33 :: T 34 :: T 35 :: T 36 :: T 37 :: T 38 :: T 39 :: T 40 :: T 41 :: T 42 :: T 43 :: T 44 :: T 45 :: T 46 :: T 47 :: T 48 :: T 49 :: T 50 :: T 51 :: T 52 :: T 53 :: T 54 :: T 55 :: T 56 :: T 57 :: T 58 :: T 59 :: T 60 :: T 61 :: T 62 :: T 63 :: T 64 :: T 65 :: T 66 :: T 67 :: T 68 :: T 69 :: T 70 :: T 71 :: T 72 :: T 73 :: T 74 :: T 75 :: T 76 :: T 77 :: T 78 :: T 79 :: T 80 :: T 81 :: T 82 :: T 83 :: T 84 :: T 85 :: T 86 :: T 87 :: T 88 :: T 89 :: T 90 :: T 91 :: T 92 :: T 93 :: T 94 :: T 95 :: T 96 :: T 97 :: T 98 :: T 99 :: T 100 :: T 101 :: T 102 :: T 103 :: T 104 :: T 105 :: T 106 :: (.func (.func 34) #[] #[.pointer (some ⟨rb, 0, none⟩)]) :: (.agg #[.int .i64 (x.1 : Int), .int .i64 (x.2 : Int)]) :: T 109 :: T 110 :: T 111 :: T 112 :: T 113 :: T 114 :: T 115 :: T 116 :: T 117 :: T 118 :: T 119 :: T 120 :: T 121 :: T 122 :: T 123 :: T 124 :: T 125 :: T 126 :: T 127 :: T 128 :: T 129 :: T 130 :: T 131 :: T 132 :: T 133 :: T 134 :: T 135 :: T 136 :: T 137 :: T 138 :: T 139 :: T 140 :: T 141 :: T 142 :: T 143 :: T 144 :: T 145 :: T 146 :: T 147 :: T 148 :: T 149 :: T 150 :: T 151 :: T 152 :: T 153 :: T 154 :: T 155 :: T 156 :: T 157 :: T 158 :: T 159 :: T 160 :: T 161 :: T 162 :: T 163 :: T 164 :: T 165 :: T 166 :: T 167 :: T 168 :: T 169 :: T 170 :: T 171 :: T 172 :: T 173 :: T 174 :: T 175 :: T 176 :: T 177 :: T 178 :: T 179 :: T 180 :: T 181 :: T 182 :: T 183 :: T 184 :: T 185 :: T 186 :: T 187 :: T 188 :: T 189 :: T 190 :: T 191 :: T 192 :: T 193 :: T 194 :: T 195 :: T 196 :: T 197 :: T 198 :: T 199 :: T 200 :: T 201 :: T 202 :: T 203 :: T 204 :: T 205 :: T 206 :: T 207 :: T 208 :: T 209 :: T 210 :: T 211 :: T 212 :: T 213 :: T 214 :: T 215 :: T 216 :: T 217 :: T 218 :: T 219 :: T 220 :: T 221 :: T 222 :: T 223 :: T 224 :: T 225 :: T 226 :: T 227 :: T 228 :: T 229 :: T 230 :: T 231 :: T 232 :: T 233 :: T 234 :: T 235 :: T 236 :: T 237 :: T 238 :: T 239 :: T 240 :: T 241 :: T 242 :: T 243 :: T 244 :: T 245 :: T 246 :: T 247 :: T 248 :: T 249 :: T 250 :: T 251 :: T 252 :: T 253 :: T 254 :: T 255 :: T 256 :: T 257 :: T 258 :: T 259 :: T 260 :: T 261 :: T 262 :: T 263 :: T 264 :: T 265 :: T 266 :: T 267 :: T 268 :: T 269 :: T 270 :: T 271 :: T 272 :: T 273 :: T 274 :: T 275 :: T 276 :: T 277 :: []), defers := [] })
        ?assign ?body ?done ?stop
      case kp => exact fun A A' h1 h2 h3 => ⟨h2, fun q hq => h3 q (by have := HX7.out q hq; have := HS7.out; omega)⟩
      case assign =>
        intro l x W K hK
        have HK := hide1 hK
        clear hK
        dsimp only [encS]
        gi_wp2
        exact HK.out
      case stop => exact fun _ _ _ _ _ h => h.elim
      case body =>
        rintro TT pre x W0 W hw0 hTl hbx hVs ⟨g1, g2, v, g5, g6, g7⟩ hpre hTb hT0 hT1 hsz hloop
        have hb0 : W.heap[W0.heap.size]? = some (.cells #[.int .i64 (x.1 : Int), .int .i64 (x.2 : Int)] 45 (0, 0)) := (hbx _ (Nat.le_refl _)).trans (World.alloc_heap_new W0 _)
        obtain ⟨xb, hxb⟩ : ∃ xb, W0.heap.size = xb := ⟨_, rfl⟩
        rw [hxb] at hb0 ⊢
        obtain ⟨x1, x2⟩ := x
        have hplen : pre.length < 4194305 := by
          have h1 := hpre.length_le
          simp only [List.length_append, List.length_cons, List.length_nil] at h1
          omega
        obtain ⟨m, hm⟩ : ∃ m, pre.length = m := ⟨_, rfl⟩
        have hm4 : m < 4194305 := by omega
        obtain ⟨va, vc, rfl⟩ : ∃ a c, v = .slice a m c := by rw [← hm]; exact g6.form
        obtain ⟨c0, f0⟩ := one_cell g5
        have b0 : W.cell? ⟨xb, 0, none⟩ = some (.int .i64 (x1 : Int)) := by simp [World.cell?, hb0]
        have b1 : W.cell? ⟨xb, 1, none⟩ = some (.int .i64 (x2 : Int)) := by simp [World.cell?, hb0]
        have HG1 := hide1 g1
        have HG2 := hide1 g2
        have HG5 := hide1 g5
        have HG6 := hide1 g6
        have HG7 := hide1 g7
        have HM := hide1 hm
        have HTB : Hid (∀ k, TT k → k < W.heap.size) := fun k hk => (hTb k hk).2
        have HSW : Hid (w7.heap.size = sb + 1 ∧ w7.heap.size ≤ W.heap.size) := ⟨HS7.out.2.1, g2.2.2.2.1⟩
        clear g1 g2 g5 g6 g7 hpre hplen hm hTb hT0 hT1 hsz hloop hbx hVs hw0 hTl hb0 hxb
        gi_wp2_with (gi_at_builtin
                     refine wplIn_lo (E := spE) rfl _ _ rfl w7.heap.size (.slice va m vc) pre m HM.out rfl (HG6.out.keep ((Kept.refl W).alloc _ _)) W.heap.size (x1, x2) rfl (World.alloc_heap_new W _) (by show (m + 1) * 16 ≤ _; omega) (by unfold maxLen; omega) (Nat.le_trans HSW.out.2 (alloc_le W _)) ?_
                     intro g9 cp9 w9 ho9 hg9 hor9 hl9
                     have HP1 := hide1 (push_of (Kept.refl W) HG5.out HG6.out (by have := HSW.out; omega) hg9 ho9 hor9)
                     have hr9 : w9.heap[sb]? = some (.cells #[.slice va m vc] 43 (0, 0)) := (hg9.block sb (by have h2 := HSW.out; simp only [World.size_alloc]; omega) (fun e => by have h1 := (HG6.out.lt' _ e.symm).1; have h2 := HSW.out; omega)).trans ((heap_alloc_old W _ (by have h2 := HSW.out; omega)).trans HG5.out)
                     obtain ⟨e0, e1⟩ := one_cell hr9
                     clear ho9 hg9 hor9 hl9 hr9)
        exact sp_fin (by have := HSW.out; omega) HX7.out HG1.out HG2.out HG6.out HG7.out HTB.out HP1.out
      case done =>
        rintro TT W ⟨g1, g2, v, g5, g6, g7⟩ hdef hTb hT0 hT1
        obtain ⟨ns, hns⟩ : ∃ n, xs.length = n := ⟨_, rfl⟩
        obtain ⟨sa, sc, rfl⟩ : ∃ x c, v = .slice x ns c := by rw [← hns]; exact g6.form
        have hs7 := HS7.out
        have h5W : Kept w5 W := KeptBut.new HK57.out g2 (by omega)
        have h4W : Kept w4 W := gtrans HK45.out h5W
        have h3W : Kept w3 W := gtrans HK34.out h4W
        have h2W : Kept w2 W := gtrans HK23.out h3W
        have HRW : Hid (Kept wr W) := gtrans HK5.out h5W
        have HGS : Hid (GpS l1 l2 (begL N b) hs xs la ma ta ha sa sb ns sc W) := ⟨fun k y hy => lo_int (HO1.out.keep h2W) hy, fun k y hy => lo_int (HO2.out.keep h3W) hy, fun k y hy => lo_int (HO3.out.keep h3W) hy, fun k y hy => lo_hk (HO4.out.keep h4W) hy, (one_cell g5).1, fun k y hy => lo_sp g6 hy⟩
        have HDW : Hid ((w7.heap.size :: Ds).Nodup ∧ ∀ D, D ∈ w7.heap.size :: Ds → w1.heap.size ≤ D ∧ W.heap[D]? = some (.deferred (some []))) := by
          have hlt : ∀ D ∈ Ds, D < wr.heap.size := fun D hm => (Array.getElem?_eq_some_iff.1 (HDS.out.2 D hm).2).1
          have h1 := HKR.out.size
          have h2 := HK5.out.size
          refine ⟨List.nodup_cons.2 ⟨fun hm => by have := hlt _ hm; omega, HDS.out.1⟩, fun D hD => ?_⟩
          rcases List.mem_cons.1 hD with rfl | hD
          · exact ⟨by omega, hdef⟩
          · exact ⟨(HDS.out.2 D hD).1, (HRW.out.2.2.2.2 D (hlt D hD)).trans (HDS.out.2 D hD).2⟩
        have HNS : Hid (xs.length = ns) := hns
        have hnsI : ns ≤ 4194305 := by omega
        have hn3 : n3 = n2 + 1 := HLL.out.2.2.2.2.2.2.1.symm
        obtain ⟨Es, hEs⟩ : ∃ Es, w7.heap.size :: Ds = Es := ⟨_, rfl⟩
        have hmk : ({ target := .collected w7.heap.size, args := #[] } : Deferred) :: marksR Ds = marksR Es := by rw [← hEs]; rfl
        rw [hEs] at HDW
        dsimp only
        rw [hmk]
        have HN3 := hide1 hn3
        have hhI : (nh : Int) ≤ 4194305 := by omega
        have h1I : (n1 : Int) ≤ 4194304 := by omega
        have h2I : (n2 : Int) ≤ 4194304 := by omega
        have hsI : (ns : Int) ≤ 4194305 := by omega
        clear g1 g2 g5 g6 g7 hdef hTb hT0 hT1 h5W h4W h3W h2W hns hn3 hEs hmk hs7
        go_wp2_with fail
        refine wp_loop (GpO (some ⟨pg, po, none⟩) np pc gb i la n1 lc ma n2 mc ta n3 tc ha nh hc sb N b ns l1 l2 hs Es W) (fun a' _ => nh + 2 - (intOf (a'.tmps.getD 23 undef)).toNat) ?_ ?_
        · exact ⟨0, 0, 0, 0, pK_of _ (by kernel_rfl), by omega, by omega, by omega, by omega, Kept.refl W, fun _ => ⟨rfl, HGAP.out⟩, fun h => by omega⟩
        · rintro a' wk ⟨pf, pi, told, k, ⟨T, rfl⟩, hk1, hpf, hpi, htl, HKS, HST⟩
          by_cases hkn : k ≤ nh
          · obtain ⟨hto, hgo⟩ := HST.out.1 hkn
            have HTO := hide1 hto
            clear hto
            have gs := HGS.out.keep HKS.out
            have hkI2 : (k : Int) ≤ (nh : Int) := by omega
            by_cases hkl : k < nh
            · obtain ⟨h, hx⟩ : ∃ h, hs[k]? = some h := ⟨_, List.getElem?_eq_getElem (by rw [HLL.out.2.2.2.2.2.1]; exact hkl)⟩
              have hdr : hs.drop k = h :: hs.drop (k + 1) := by
                have h9 := List.getElem?_eq_some_iff.1 hx
                rw [List.drop_eq_getElem_cons h9.1, h9.2]
              have htk : hs.take (k + 1) = hs.take k ++ [h] := by rw [List.take_add_one, hx]; rfl
              rw [hdr] at hgo
              obtain ⟨⟨a1, a2, a3, a4⟩, ⟨b1, b2, b3, b4, b5, b6⟩, hgr⟩ := hgo
              obtain ⟨gh, rfl, q0, q1, q2, q3⟩ := gs.ch k h hx
              have HPRE : Hid ((hs.take k ++ [h]) <+: hunksL N a b) := (by rw [← htk, HLL.out.2.2.1]; exact List.take_prefix _ _ : (hs.take k ++ [h]) <+: hunksL N a b)
              have HTS := hide1 (told_step N b (hs.take k) h)
              have HTA : Hid (beg N b h.into < beg N b h.upto → xs[told]? = some (beg N b h.into, beg N b h.upto)) := fun h9 => by rw [← HXS.out, HTO.out]; exact told_at N HPRE.out h9
              have hkI : (k : Int) < (nh : Int) := by omega
              obtain ⟨fr, to_, into, upto⟩ := h
              dsimp only at a1 a2 a3 a4 b1 b2 b3 b4 b5 b6 hgr q0 q1 q2 q3 HTA
              rw [← htk] at HTS
              dsimp only at HTS
              rw [HLL.out.2.2.2.1] at b4
              rw [HLL.out.2.2.2.2.1] at b5
              have HGR := hide1 hgr
              have HA4 := hide1 a4
              clear hx hdr htk hgr a4 HPRE
              go_upto_region 24 with fail
              obtain ⟨xb, hxb⟩ : ∃ xb, wk.heap.size = xb := ⟨_, rfl⟩
              obtain ⟨wx, hwx⟩ : ∃ wx, wk.alloc (.cells #[.int .i64 (n1 : Int), .int .i64 (n1 : Int), .int .i64 (n2 : Int), .int .i64 (n2 : Int)] 47) = wx := ⟨_, rfl⟩
              have hkx : Kept wk wx := by rw [← hwx]; exact (Kept.refl wk).alloc _ _
              have hbx : wx.heap[xb]? = some (.cells #[.int .i64 (n1 : Int), .int .i64 (n1 : Int), .int .i64 (n2 : Int), .int .i64 (n2 : Int)] 47 (0, 0)) := by rw [← hwx, ← hxb]; exact World.alloc_heap_new wk _
              rw [hwx, hxb]
              replace q0 := grown_cell hkx q0
              replace q1 := grown_cell hkx q1
              replace q2 := grown_cell hkx q2
              replace q3 := grown_cell hkx q3
              obtain ⟨e0, e1, e2, e3, f0, f1, f2, f3⟩ := box4 hbx
              have hxl := (Array.getElem?_eq_some_iff.1 hbx).1
              have HBX := hide1 hbx
              have HKX := hide1 hkx
              have HXB := hide1 hxb
              clear hwx hbx hkx hxb
              go_upto_region 26 with fail
              obtain ⟨wy, hwy⟩ : ∃ wy, (((wx.setCell ⟨xb, 0, none⟩ (.int .i64 (fr : Int))).setCell ⟨xb, 1, none⟩ (.int .i64 (to_ : Int))).setCell ⟨xb, 2, none⟩ (.int .i64 (into : Int))).setCell ⟨xb, 3, none⟩ (.int .i64 (upto : Int)) = wy := ⟨_, rfl⟩
              rw [hwy]
              have hby := set4 HBX.out (.int .i64 (fr : Int)) (.int .i64 (to_ : Int)) (.int .i64 (into : Int)) (.int .i64 (upto : Int))
              have hky := kept4 HKX.out (show wk.heap.size ≤ xb by rw [HXB.out]; exact Nat.le_refl _) (.int .i64 (fr : Int)) (.int .i64 (to_ : Int)) (.int .i64 (into : Int)) (.int .i64 (upto : Int))
              rw [hwy] at hby hky
              clear hwy e0 e1 e2 e3 f0 f1 f2 f3 q0 q1 q2 q3
              obtain ⟨e0, e1, e2, e3, f0, f1, f2, f3⟩ := box4 hby
              have z1 : ¬ (to_ : Int) < (fr : Int) := by omega
              have z2 : ¬ (upto : Int) < (into : Int) := by omega
              refine Code.wp_mono (Q := fun e a' w' => e = .normal ∧ PY (some ⟨pg, po, none⟩) np pc gb i la n1 lc ma n2 mc ta n3 tc (some ⟨gh, 0, none⟩) nh hc sb pf pi told k xb (marksR Es) a' ∧ w' = wy) ?_ ?_
              rotate_left
              · by_cases c1 : fr = to_
                · have d1 : ((fr : Int) == (to_ : Int)) = true := by rw [c1]; simp
                  have d2 : ((into : Int) == (upto : Int)) = false := by simp; omega
                  clear c1
                  by_cases c2 : k = 0
                  · have d3 : ¬ (0 : Int) < (k : Int) := by omega
                    clear c2
                    go_wp2_with fail
                    first | exact ⟨pY_of _ (by kernel_rfl), rfl⟩ | exact pY_of _ (by kernel_rfl)
                  · have d3 : (0 : Int) < (k : Int) := by omega
                    have d4 : ((fr : Int) == (pf : Int)) = false := by have := b6 (by simp [c2]); simp; omega
                    clear c2
                    go_wp2_with fail
                    first | exact ⟨pY_of _ (by kernel_rfl), rfl⟩ | exact pY_of _ (by kernel_rfl)
                · have d1 : ((fr : Int) == (to_ : Int)) = false := by simp; omega
                  clear c1
                  by_cases c2 : k = 0
                  · have d3 : ¬ (0 : Int) < (k : Int) := by omega
                    clear c2
                    go_wp2_with fail
                    first | exact ⟨pY_of _ (by kernel_rfl), rfl⟩ | exact pY_of _ (by kernel_rfl)
                  · have d3 : (0 : Int) < (k : Int) := by omega
                    have d4 : ((fr : Int) == (pf : Int)) = false := by have := b6 (by simp [c2]); simp; omega
                    clear c2
                    go_wp2_with fail
                    first | exact ⟨pY_of _ (by kernel_rfl), rfl⟩ | exact pY_of _ (by kernel_rfl)
              rintro e a' w9 ⟨rfl, ⟨T, rfl⟩, hw9⟩
              rw [hw9]
              clear hw9
              have hIN : into ≤ n2 := by omega
              have HFIN : Hid (∀ t, t = told + (if beg N b into < beg N b upto then 1 else 0) → ((k + 1 ≤ nh → t = toldN N b (hs.take (k + 1)) ∧ GapOk l1 l2 (hs.drop (k + 1)) to_ upto (decide (k + 1 = 0))) ∧ (k + 1 = nh + 1 → to_ = n1 ∧ upto = n2 ∧ t = ns))) := fun t ht => ⟨fun _ => ⟨by rw [ht, HTS.out, HTO.out], by rw [show decide (k + 1 = 0) = false from by simp]; exact HGR.out⟩, fun h9 => by omega⟩
              clear b3 b6 z1 z2 hxl HTS HGR HTO
              obtain ⟨d, hd⟩ : ∃ d, fr - pf = d := ⟨_, rfl⟩
              have s1 : (fr : Int) - (pf : Int) = (d : Int) := by omega
              have s2 : (into : Int) - (pi : Int) = (d : Int) := by omega
              have z1 : ¬ (fr : Int) < (pf : Int) := by omega
              have z2 : ¬ (n1 : Int) < (to_ : Int) := by omega
              have z3 : ¬ (n2 : Int) < (upto : Int) := by omega
              have hdI : (d : Int) ≤ 4194304 := by omega
              rw [hd] at HA4
              have HBY := hide1 hby
              have HKY := hide1 hky
              have hdn : pf + d ≤ n1 ∧ pi + d ≤ n2 := by omega
              clear hby hky
              go_wp2_with fail
              refine wp_loop (GjO (some ⟨pg, po, none⟩) np pc gb i la n1 lc ma n2 mc ta n3 tc (some ⟨gh, 0, none⟩) nh hc sb pf pi told k xb d Es wy) (fun a' _ => d - (intOf (a'.tmps.getD 25 undef)).toNat) ?_ ?_
              · exact ⟨0, pJ_of _ (by kernel_rfl), Nat.zero_le _, Kept.refl wy⟩
              · rintro a' wj ⟨j, ⟨T, rfl⟩, hj, HKJ⟩
                obtain ⟨e0, e1, e2, e3, f0, f1, f2, f3⟩ := box4 ((HKJ.out.2.2.2.2 xb (Array.getElem?_eq_some_iff.1 HBY.out).1).trans HBY.out)
                have gj := HGS.out.keep (gtrans HKS.out (gtrans HKY.out HKJ.out))
                by_cases hjd : j < d
                · obtain ⟨y, hy⟩ : ∃ y, l1[pf + j]? = some y := ⟨_, List.getElem?_eq_getElem (by rw [HLL.out.2.2.2.1]; omega)⟩
                  have hy2 : l2[pi + j]? = some y := (HA4.out j hjd).symm.trans hy
                  obtain ⟨g1, rfl, r1⟩ := gj.c1 _ y hy
                  obtain ⟨g2, rfl, r2⟩ := gj.c2 _ y hy2
                  obtain ⟨qa, hqa⟩ : ∃ q, pf + j = q := ⟨_, rfl⟩
                  obtain ⟨qb, hqb⟩ : ∃ q, pi + j = q := ⟨_, rfl⟩
                  rw [hqa] at r1
                  rw [hqb] at r2
                  have t1 : (pf : Int) + (j : Int) = (qa : Int) := by omega
                  have t2 : (pi : Int) + (j : Int) = (qb : Int) := by omega
                  have t3 : (qa : Int) < (n1 : Int) := by omega
                  have t4 : (qb : Int) < (n2 : Int) := by omega
                  have hjI : (j : Int) < (d : Int) := by omega
                  clear hy hy2 hqa hqb gj
                  go_upto_region 33 with fail
                  go_quiet (fail)
                  obtain ⟨wv, hwv⟩ : ∃ wv, wj.drewN nq = wv := ⟨_, rfl⟩
                  have HKV : Hid (Kept wy wv) := gtrans HKJ.out (by rw [← hwv]; exact drewN_kept _ _)
                  rw [hwv]
                  clear hwv e0 e1 e2 e3 f0 f1 f2 f3 r1 r2
                  go_wp2_with fail
                  refine ⟨⟨j + 1, pJ_of _ (by kernel_rfl), by omega, HKV.out⟩, ?_⟩
                  show d - (intOf (.int .i64 ((j : Int) + 1))).toNat < d - (intOf (.int .i64 (j : Int))).toNat
                  simp [intOf] <;> omega
                · obtain rfl : j = d := by omega
                  have hjI : ¬ (j : Int) < (j : Int) := by omega
                  have hlb := HLL.out.2.2.2.2.2.2.2
                  have hn3 := HN3.out
                  obtain ⟨gt, rfl, r1⟩ := gj.c3 into _ (begL_at N b (by rw [hlb]; exact hIN))
                  obtain ⟨gt', hgt', r2⟩ := gj.c3 upto _ (begL_at N b (by rw [hlb]; exact b5))
                  injection hgt' with hgt'
                  injection hgt' with hgt'
                  subst hgt'
                  have t3 : (into : Int) < (n3 : Int) := by omega
                  have t4 : (upto : Int) < (n3 : Int) := by omega
                  have k1 := gj.cs
                  have HGJ := hide1 gj
                  clear hlb hn3 gj
                  obtain ⟨ba, hba⟩ : ∃ x, beg N b into = x := ⟨_, rfl⟩
                  obtain ⟨bz, hbz⟩ : ∃ x, beg N b upto = x := ⟨_, rfl⟩
                  rw [hba] at r1
                  rw [hbz] at r2
                  rw [hba, hbz] at HTA HFIN
                  clear hba hbz
                  go_upto_region 35 with fail
                  go_quiet (fail)
                  obtain ⟨wv, hwv⟩ : ∃ wv, wj.drewN nq = wv := ⟨_, rfl⟩
                  have hkv : Kept wj wv := by rw [← hwv]; exact drewN_kept _ _
                  rw [hwv]
                  replace e0 := grown_cell hkv e0
                  replace e1 := grown_cell hkv e1
                  replace e2 := grown_cell hkv e2
                  replace e3 := grown_cell hkv e3
                  replace k1 := grown_cell hkv k1
                  replace r1 := grown_cell hkv r1
                  replace r2 := grown_cell hkv r2
                  have HKV := hide1 hkv
                  clear hwv f0 f1 f2 f3 hkv nq
                  by_cases hsp : ba < bz
                  · have hspI : (ba : Int) < (bz : Int) := by omega
                    have hxt := HTA.out hsp
                    have htn : told < ns := by rw [← HNS.out]; exact (List.getElem?_eq_some_iff.1 hxt).1
                    obtain ⟨gx, rfl, v1, v2⟩ := HGJ.out.cx told _ hxt
                    dsimp only at v1 v2
                    replace v1 := grown_cell HKV.out v1
                    replace v2 := grown_cell HKV.out v2
                    have htI : ¬ (ns : Int) ≤ (told : Int) := by omega
                    have htI2 : (told : Int) < (ns : Int) := by omega
                    have htD : decide ((ns : Int) ≤ (told : Int)) = false := decide_eq_false htI
                    have htD2 : decide (ns ≤ told) = false := decide_eq_false (by omega)
                    have HFT := hide1 (HFIN.out (told + 1) (by rw [if_pos hsp]))
                    clear hxt hsp HTA HFIN
                    go_upto_region 36 with fail
                    go_quiet (fail)
                    obtain ⟨wu, hwu⟩ : ∃ wu, wv.drewN nq = wu := ⟨_, rfl⟩
                    have hku : Kept wv wu := by rw [← hwu]; exact drewN_kept _ _
                    rw [hwu]
                    replace e1 := grown_cell hku e1
                    replace e3 := grown_cell hku e3
                    have HKU : Hid (Kept W wu) := gtrans HKS.out (gtrans HKY.out (gtrans HKJ.out (gtrans HKV.out hku)))
                    clear hwu hku e0 e2 k1 r1 r2 v1 v2
                    go_wp2_with fail
                    refine ⟨⟨to_, upto, told + 1, k + 1, pK_of _ (by kernel_rfl), by omega, b4, b5, by omega, HKU.out, HFT.out⟩, ?_⟩
                    show nh + 2 - (intOf (.int .i64 ((k : Int) + 1))).toNat < nh + 2 - (intOf (.int .i64 (k : Int))).toNat
                    simp [intOf] <;> omega
                  · have hspI : ¬ (ba : Int) < (bz : Int) := by omega
                    have HFT := hide1 (HFIN.out told (by rw [if_neg hsp]; rfl))
                    have HKU : Hid (Kept W wv) := gtrans HKS.out (gtrans HKY.out (gtrans HKJ.out HKV.out))
                    clear hsp HTA HFIN
                    go_wp2_with fail
                    refine ⟨⟨to_, upto, told, k + 1, pK_of _ (by kernel_rfl), by omega, b4, b5, htl, HKU.out, HFT.out⟩, ?_⟩
                    show nh + 2 - (intOf (.int .i64 ((k : Int) + 1))).toNat < nh + 2 - (intOf (.int .i64 (k : Int))).toNat
                    simp [intOf] <;> omega
            · obtain rfl : k = nh := by omega
              have hkI : ¬ (k : Int) < (k : Int) := by omega
              have hdr : hs.drop k = [] := List.drop_of_length_le (by rw [HLL.out.2.2.2.2.2.1]; exact Nat.le_refl _)
              have htk : hs.take k = hs := List.take_of_length_le (by rw [HLL.out.2.2.2.2.2.1]; exact Nat.le_refl _)
              rw [hdr] at hgo
              obtain ⟨a1, a2, a3, a4⟩ := hgo
              rw [HLL.out.2.2.2.1] at a1 a3 a4
              rw [HLL.out.2.2.2.2.1] at a2 a3
              rw [htk] at HTO
              have HFIN : Hid (told = ns) := (by
                rw [HTO.out, ← HNS.out, ← HXS.out]
                unfold toldN spansL
                rw [HLL.out.2.2.1] : told = ns)
              have HA4 := hide1 a4
              clear a4 hdr htk HTO
              go_upto_region 24 with fail
              obtain ⟨xb, hxb⟩ : ∃ xb, wk.heap.size = xb := ⟨_, rfl⟩
              obtain ⟨wy, hwy⟩ : ∃ wy, wk.alloc (.cells #[.int .i64 (n1 : Int), .int .i64 (n1 : Int), .int .i64 (n2 : Int), .int .i64 (n2 : Int)] 47) = wy := ⟨_, rfl⟩
              have hky : Kept wk wy := by rw [← hwy]; exact (Kept.refl wk).alloc _ _
              have hby : wy.heap[xb]? = some (.cells #[.int .i64 (n1 : Int), .int .i64 (n1 : Int), .int .i64 (n2 : Int), .int .i64 (n2 : Int)] 47 (0, 0)) := by rw [← hwy, ← hxb]; exact World.alloc_heap_new wk _
              rw [hwy, hxb]
              obtain ⟨e0, e1, e2, e3, f0, f1, f2, f3⟩ := box4 hby
              clear hwy hxb
              have b1 : n1 ≤ n1 := Nat.le_refl _
              have b2 : n2 ≤ n2 := Nat.le_refl _
              have b4 : n1 ≤ n1 := Nat.le_refl _
              have b5 : n2 ≤ n2 := Nat.le_refl _
              have hIN : n2 ≤ n2 := Nat.le_refl _
              obtain ⟨d, hd⟩ : ∃ d, n1 - pf = d := ⟨_, rfl⟩
              have s1 : (n1 : Int) - (pf : Int) = (d : Int) := by omega
              have s2 : (n2 : Int) - (pi : Int) = (d : Int) := by omega
              have z1 : ¬ (n1 : Int) < (pf : Int) := by omega
              have z2 : ¬ (n1 : Int) < (n1 : Int) := by omega
              have z3 : ¬ (n2 : Int) < (n2 : Int) := by omega
              have hdI : (d : Int) ≤ 4194304 := by omega
              rw [hd] at HA4
              have HBY := hide1 hby
              have HKY := hide1 hky
              have hdn : pf + d ≤ n1 ∧ pi + d ≤ n2 := by omega
              clear hby hky
              go_wp2_with fail
              refine wp_loop (GjO (some ⟨pg, po, none⟩) np pc gb i la n1 lc ma n2 mc ta n3 tc ha k hc sb pf pi told k xb d Es wy) (fun a' _ => d - (intOf (a'.tmps.getD 25 undef)).toNat) ?_ ?_
              · exact ⟨0, pJ_of _ (by kernel_rfl), Nat.zero_le _, Kept.refl wy⟩
              · rintro a' wj ⟨j, ⟨T, rfl⟩, hj, HKJ⟩
                obtain ⟨e0, e1, e2, e3, f0, f1, f2, f3⟩ := box4 ((HKJ.out.2.2.2.2 xb (Array.getElem?_eq_some_iff.1 HBY.out).1).trans HBY.out)
                have gj := HGS.out.keep (gtrans HKS.out (gtrans HKY.out HKJ.out))
                by_cases hjd : j < d
                · obtain ⟨y, hy⟩ : ∃ y, l1[pf + j]? = some y := ⟨_, List.getElem?_eq_getElem (by rw [HLL.out.2.2.2.1]; omega)⟩
                  have hy2 : l2[pi + j]? = some y := (HA4.out j hjd).symm.trans hy
                  obtain ⟨g1, rfl, r1⟩ := gj.c1 _ y hy
                  obtain ⟨g2, rfl, r2⟩ := gj.c2 _ y hy2
                  obtain ⟨qa, hqa⟩ : ∃ q, pf + j = q := ⟨_, rfl⟩
                  obtain ⟨qb, hqb⟩ : ∃ q, pi + j = q := ⟨_, rfl⟩
                  rw [hqa] at r1
                  rw [hqb] at r2
                  have t1 : (pf : Int) + (j : Int) = (qa : Int) := by omega
                  have t2 : (pi : Int) + (j : Int) = (qb : Int) := by omega
                  have t3 : (qa : Int) < (n1 : Int) := by omega
                  have t4 : (qb : Int) < (n2 : Int) := by omega
                  have hjI : (j : Int) < (d : Int) := by omega
                  clear hy hy2 hqa hqb gj
                  go_upto_region 33 with fail
                  go_quiet (fail)
                  obtain ⟨wv, hwv⟩ : ∃ wv, wj.drewN nq = wv := ⟨_, rfl⟩
                  have HKV : Hid (Kept wy wv) := gtrans HKJ.out (by rw [← hwv]; exact drewN_kept _ _)
                  rw [hwv]
                  clear hwv e0 e1 e2 e3 f0 f1 f2 f3 r1 r2
                  go_wp2_with fail
                  refine ⟨⟨j + 1, pJ_of _ (by kernel_rfl), by omega, HKV.out⟩, ?_⟩
                  show d - (intOf (.int .i64 ((j : Int) + 1))).toNat < d - (intOf (.int .i64 (j : Int))).toNat
                  simp [intOf] <;> omega
                · obtain rfl : j = d := by omega
                  have hjI : ¬ (j : Int) < (j : Int) := by omega
                  have hlb := HLL.out.2.2.2.2.2.2.2
                  have hn3 := HN3.out
                  obtain ⟨gt, rfl, r1⟩ := gj.c3 n2 _ (begL_at N b (by rw [hlb]; exact hIN))
                  obtain ⟨gt', hgt', r2⟩ := gj.c3 n2 _ (begL_at N b (by rw [hlb]; exact b5))
                  injection hgt' with hgt'
                  injection hgt' with hgt'
                  subst hgt'
                  have t3 : (n2 : Int) < (n3 : Int) := by omega
                  have t4 : (n2 : Int) < (n3 : Int) := by omega
                  have k1 := gj.cs
                  have HGJ := hide1 gj
                  clear hlb hn3 gj
                  go_upto_region 35 with fail
                  go_quiet (fail)
                  obtain ⟨wv, hwv⟩ : ∃ wv, wj.drewN nq = wv := ⟨_, rfl⟩
                  have hkv : Kept wj wv := by rw [← hwv]; exact drewN_kept _ _
                  rw [hwv]
                  replace e1 := grown_cell hkv e1
                  replace e3 := grown_cell hkv e3
                  have HKU : Hid (Kept W wv) := gtrans HKS.out (gtrans HKY.out (gtrans HKJ.out hkv))
                  clear hwv f0 f1 f2 f3 hkv nq e0 e2 k1 r1 r2
                  go_wp2_with fail
                  refine ⟨⟨n1, n2, told, k + 1, pK_of _ (by kernel_rfl), by omega, b4, b5, htl, HKU.out, fun h9 => by omega, fun _ => ⟨rfl, rfl, HFIN.out⟩⟩, ?_⟩
                  show k + 2 - (intOf (.int .i64 ((k : Int) + 1))).toNat < k + 2 - (intOf (.int .i64 (k : Int))).toNat
                  simp [intOf] <;> omega
          · obtain ⟨rfl, rfl, rfl⟩ := HST.out.2 (by omega)
            have gs := HGS.out.keep HKS.out
            have k1 := gs.cs
            have hkI2 : ¬ (k : Int) ≤ (nh : Int) := by omega
            have HFI : Hid (Kept w1 wk ∧ Es.Nodup ∧ ∀ D, D ∈ Es → w1.heap.size ≤ D ∧ wk.heap[D]? = some (.deferred (some []))) := ⟨gtrans HKR.out (gtrans HRW.out HKS.out), HDW.out.1, fun D hD => ⟨(HDW.out.2 D hD).1, (HKS.out.2.2.2.2 D (Array.getElem?_eq_some_iff.1 (HDW.out.2 D hD).2).1).trans (HDW.out.2 D hD).2⟩⟩
            clear hkn hpf hpi htl gs
            go_wp2_with fail
            refine ⟨⟨i + 1, Es, pF_of _ (by kernel_rfl), by omega, HFI.out.1, HFI.out.2⟩, ?_⟩
            show np - (intOf (.int .i64 ((i : Int) + 1))).toNat < np - (intOf (.int .i64 (i : Int))).toNat
            simp [intOf] <;> omega
    · have hc : (i : Int) < (np : Int) ∧ ¬ (0 : Int) < (pn : Int) ∨ ¬ (i : Int) < (np : Int) := by omega
      clear hgo
      rcases hc with ⟨h4, h3⟩ | h4
      all_goals
        go_wp2_with fail
        refine leaves_marksR Ds _ HDS.out.1 (fun D hD => (HDS.out.2 D hD).2) (fun W' e1 e2 e3 e4 e5 => ?_)
        have h1 := gtrans HK1.out HKR.out
        refine ⟨_, results_tmp rfl _ _ _, rfl, ?_⟩
        exact ⟨e1.trans h1.1, e2.trans h1.2.1, e3.trans h1.2.2.1, by rw [e4]; exact h1.size, fun q hq => (e5 q (fun h => by have := (HDS.out.2 q h).1; have := HK1.out.size; omega)).trans (h1.2.2.2.2 q hq)⟩

end Tr
end Ex
end Go.Proofs.Ytkkilkojmdeopaa
namespace Go.Proofs.Ytkkilkojmdeopaa
open Go.ChangeShapes Go.WideShapes Go.ChangeAt Go.RowKit
set_option linter.unusedVariables false
namespace Ex
namespace Tr
namespace Fg

set_option maxRecDepth 100000 in
theorem lifted (os : Os) (started : os.Started) (H : Type) (enc : TypeId × Value → H) :
    ReturnsInHanded {} Try.checked os 3 .any (Rows.deltaGapsSpec.pre6 enc Try.prog Try.f3 Rows.deltaGapsRow.domain false) (Rows.deltaGapsSpec.post enc Try.prog Try.f3 false true false false) := by
  refine returnsInHanded_of_change_sized (C := Try.checked) ownD started (by kernel_rfl) Try.func3
    (ChangeSpec.witness6 (enc := enc) (C := Try.checked) false ⟨#[], #[.slice none 0 0, .slice none 0 0], []⟩ 8 (by kernel_rfl) (by kernel_rfl) (by kernel_rfl) (by kernel_rfl)) ?_
  intro W base args ds gs before hval0 hW hcnd hsz _
  have hval : ∀ (j : Nat) t v, Try.f3.params[j]? = some t → args[j]? = some v → Value.okWide Try.prog W .any base t v := hval0
  have hW' := hW
  obtain ⟨p, q, hA0, hV, rfl, hfz, hnd⟩ := hW
  have hA : DataW.TrodAll enc Try.prog W 0 (fun _ => true) true Try.f3.params.toList args.toList ds p := hA0
  rw [Try.params3] at hA hval
  obtain ⟨v0, vs0, d0, ds0, p0, q0, hargs, rfl, rfl, h0, r0⟩ := trodAll_cons hA
  obtain ⟨v1, vs1, d1, ds1, p1, q1, rfl, rfl, rfl, h1, r1⟩ := trodAll_cons r0
  obtain ⟨rfl, rfl, rfl⟩ := trodAll_nil r1
  obtain rfl : args = #[v0, v1] := by cases args; simp_all
  obtain ⟨rfl, rfl⟩ := trodVars_none hV
  have s0 := okWide_slice Try.underlying22 (hval 0 22 v0 rfl rfl)
  have s1 := okWide_slice Try.underlying23 (hval 1 23 v1 rfl rfl)
  have k0 := h0
  have k1 := h1
  have lt0 : ∀ x ∈ p0, x.block < W.heap.size := by obtain ⟨m, hm⟩ := k0; exact DataW.trod_lt m _ _ _ hm
  have lt1 : ∀ x ∈ p1, x.block < W.heap.size := by obtain ⟨m, hm⟩ := k1; exact DataW.trod_lt m _ _ _ hm
  have wt0 : ∀ n ∈ d0.weights Try.prog 22, n ≤ reachBytes := fun n hn => by
    have := List.all_eq_true.1 hsz n (DataW.weights_mem_each (j := 0) (by rfl) (by rfl) n hn)
    simpa using this
  have wt1 : ∀ n ∈ d1.weights Try.prog 23, n ≤ reachBytes := fun n hn => by
    have := List.all_eq_true.1 hsz n (DataW.weights_mem_each (j := 1) (by rfl) (by rfl) n hn)
    simpa using this
  obtain ⟨l0, x0⟩ := parts_arg s0 k0 wt0
  obtain ⟨ps, x1⟩ := pairs_arg s1 k1 wt1
  clear hA0 hval0
  refine Calls.mono (R := fun e w' => e = .returned (.bool true) ∧ Below W.heap.size W w') ((lawGaps v0 v1 ps W (fun W9 hk9 => grove_is v0 l0 W9 (x0.keep hk9)) x1).mono fun _ _ h => ⟨h.1, h.2.below⟩) fun e W' ⟨he, bel⟩ => ?_
  subst he
  exact ⟨_, rfl, _, _, _, [], _, [], hW', trodAll_mk1 (shut_bool Try.underlying4 _), (trodAll_cons_mk (Below.trod laidOutD (by kernel_rfl) (of_decide_eq_true (by kernel_rfl)) k0 bel lt0) (trodAll_cons_mk (Below.trod laidOutD (by kernel_rfl) (of_decide_eq_true (by kernel_rfl)) k1 bel lt1) trodAll_mk0)), rfl, bel.frame _, fun h => by cases h⟩

theorem over : Rows.deltaGapsRow.holds Try.pinned (OpenSpec.ofChange Rows.deltaGapsSpec) :=
  OpenClaim.holds_of_wide 3 Try.f3 rfl rfl rfl rfl rfl rfl rfl ⟨rfl, rfl, rfl, rfl, rfl⟩ rfl rfl rfl rfl rfl (by kernel_rfl) Try.func3 (by kernel_rfl)
    (of_decide_eq_true (by kernel_rfl)) (by unfold Func.isWrapper; first | (rw [if_pos (by decide +kernel)]; kernel_rfl) | (rw [if_neg (by decide +kernel)]; exact ⟨rfl, rfl⟩))
    (fun os started H enc _ => lifted os started H enc)

end Fg
end Tr
end Ex
theorem deltaGaps_holds : Rows.DeltaGapsSaid := Ex.Tr.Fg.over
#print axioms deltaGaps_holds
end Go.Proofs.Ytkkilkojmdeopaa
