import Derived.Test.YtooelfjceehmmaaDoorMSpCy
import Derived.Deep.Cut
import Derived.Deep.RegionHeld3
import Derived.BigQuiet
namespace Go.Proofs.YtooelfjceehmmaaDoor
open Go.RowKit
attribute [local go_sem] Oper.semAt_some
namespace Ex
open Sh

set_option maxRecDepth 100000 in
def BoF (b0 wb : Nat) (av hv ov ev : Value) (t : Nat) (a : Act) : Prop := ∃ T : Nat → Value, a = { tmps := List.toArray (T 0 :: (.pointer (some ⟨b0, 0, none⟩)) :: T 2 :: T 3 :: T 4 :: T 5 :: (.pointer (some ⟨wb, 0, none⟩)) :: av :: hv :: ov :: ev :: (.int .i64 (t : Int)) :: T 12 :: T 13 :: T 14 :: T 15 :: T 16 :: T 17 :: T 18 :: T 19 :: T 20 :: T 21 :: T 22 :: T 23 :: T 24 :: T 25 :: T 26 :: T 27 :: T 28 :: T 29 :: T 30 :: T 31 :: T 32 :: T 33 :: T 34 :: T 35 :: T 36 :: T 37 :: T 38 :: T 39 :: T 40 :: T 41 :: T 42 :: T 43 :: T 44 :: T 45 :: T 46 :: T 47 :: T 48 :: T 49 :: T 50 :: T 51 :: T 52 :: T 53 :: T 54 :: T 55 :: T 56 :: T 57 :: T 58 :: T 59 :: T 60 :: T 61 :: T 62 :: T 63 :: T 64 :: T 65 :: T 66 :: T 67 :: T 68 :: T 69 :: T 70 :: T 71 :: T 72 :: T 73 :: T 74 :: T 75 :: T 76 :: T 77 :: T 78 :: T 79 :: T 80 :: T 81 :: T 82 :: T 83 :: T 84 :: T 85 :: T 86 :: T 87 :: T 88 :: T 89 :: T 90 :: T 91 :: T 92 :: T 93 :: T 94 :: T 95 :: T 96 :: T 97 :: T 98 :: T 99 :: T 100 :: T 101 :: T 102 :: T 103 :: T 104 :: T 105 :: T 106 :: T 107 :: T 108 :: T 109 :: T 110 :: T 111 :: T 112 :: T 113 :: T 114 :: T 115 :: T 116 :: T 117 :: T 118 :: T 119 :: T 120 :: T 121 :: T 122 :: T 123 :: T 124 :: T 125 :: T 126 :: T 127 :: T 128 :: T 129 :: T 130 :: T 131 :: T 132 :: T 133 :: T 134 :: T 135 :: T 136 :: T 137 :: T 138 :: T 139 :: T 140 :: T 141 :: T 142 :: T 143 :: T 144 :: T 145 :: T 146 :: T 147 :: T 148 :: T 149 :: T 150 :: T 151 :: T 152 :: T 153 :: T 154 :: T 155 :: T 156 :: T 157 :: T 158 :: T 159 :: T 160 :: T 161 :: T 162 :: T 163 :: T 164 :: T 165 :: T 166 :: T 167 :: T 168 :: T 169 :: T 170 :: T 171 :: T 172 :: T 173 :: T 174 :: T 175 :: T 176 :: T 177 :: T 178 :: T 179 :: T 180 :: T 181 :: T 182 :: T 183 :: T 184 :: T 185 :: T 186 :: T 187 :: T 188 :: T 189 :: T 190 :: T 191 :: T 192 :: T 193 :: T 194 :: T 195 :: T 196 :: T 197 :: T 198 :: T 199 :: T 200 :: T 201 :: T 202 :: T 203 :: T 204 :: T 205 :: T 206 :: T 207 :: T 208 :: T 209 :: T 210 :: T 211 :: T 212 :: T 213 :: T 214 :: T 215 :: T 216 :: T 217 :: T 218 :: T 219 :: T 220 :: T 221 :: T 222 :: T 223 :: T 224 :: T 225 :: T 226 :: T 227 :: T 228 :: T 229 :: T 230 :: T 231 :: T 232 :: T 233 :: T 234 :: T 235 :: T 236 :: T 237 :: T 238 :: T 239 :: T 240 :: T 241 :: T 242 :: T 243 :: T 244 :: T 245 :: T 246 :: T 247 :: T 248 :: T 249 :: T 250 :: T 251 :: T 252 :: T 253 :: T 254 :: T 255 :: T 256 :: T 257 :: T 258 :: T 259 :: T 260 :: T 261 :: T 262 :: T 263 :: T 264 :: T 265 :: T 266 :: T 267 :: T 268 :: T 269 :: T 270 :: T 271 :: T 272 :: T 273 :: T 274 :: T 275 :: T 276 :: T 277 :: T 278 :: []), defers := [] }
set_option maxRecDepth 100000 in
theorem boF_of {b0 wb : Nat} {av hv ov ev : Value} {t : Nat} (L : List Value) (h : L = nthK L 0 :: (.pointer (some ⟨b0, 0, none⟩)) :: nthK L 2 :: nthK L 3 :: nthK L 4 :: nthK L 5 :: (.pointer (some ⟨wb, 0, none⟩)) :: av :: hv :: ov :: ev :: (.int .i64 (t : Int)) :: nthK L 12 :: nthK L 13 :: nthK L 14 :: nthK L 15 :: nthK L 16 :: nthK L 17 :: nthK L 18 :: nthK L 19 :: nthK L 20 :: nthK L 21 :: nthK L 22 :: nthK L 23 :: nthK L 24 :: nthK L 25 :: nthK L 26 :: nthK L 27 :: nthK L 28 :: nthK L 29 :: nthK L 30 :: nthK L 31 :: nthK L 32 :: nthK L 33 :: nthK L 34 :: nthK L 35 :: nthK L 36 :: nthK L 37 :: nthK L 38 :: nthK L 39 :: nthK L 40 :: nthK L 41 :: nthK L 42 :: nthK L 43 :: nthK L 44 :: nthK L 45 :: nthK L 46 :: nthK L 47 :: nthK L 48 :: nthK L 49 :: nthK L 50 :: nthK L 51 :: nthK L 52 :: nthK L 53 :: nthK L 54 :: nthK L 55 :: nthK L 56 :: nthK L 57 :: nthK L 58 :: nthK L 59 :: nthK L 60 :: nthK L 61 :: nthK L 62 :: nthK L 63 :: nthK L 64 :: nthK L 65 :: nthK L 66 :: nthK L 67 :: nthK L 68 :: nthK L 69 :: nthK L 70 :: nthK L 71 :: nthK L 72 :: nthK L 73 :: nthK L 74 :: nthK L 75 :: nthK L 76 :: nthK L 77 :: nthK L 78 :: nthK L 79 :: nthK L 80 :: nthK L 81 :: nthK L 82 :: nthK L 83 :: nthK L 84 :: nthK L 85 :: nthK L 86 :: nthK L 87 :: nthK L 88 :: nthK L 89 :: nthK L 90 :: nthK L 91 :: nthK L 92 :: nthK L 93 :: nthK L 94 :: nthK L 95 :: nthK L 96 :: nthK L 97 :: nthK L 98 :: nthK L 99 :: nthK L 100 :: nthK L 101 :: nthK L 102 :: nthK L 103 :: nthK L 104 :: nthK L 105 :: nthK L 106 :: nthK L 107 :: nthK L 108 :: nthK L 109 :: nthK L 110 :: nthK L 111 :: nthK L 112 :: nthK L 113 :: nthK L 114 :: nthK L 115 :: nthK L 116 :: nthK L 117 :: nthK L 118 :: nthK L 119 :: nthK L 120 :: nthK L 121 :: nthK L 122 :: nthK L 123 :: nthK L 124 :: nthK L 125 :: nthK L 126 :: nthK L 127 :: nthK L 128 :: nthK L 129 :: nthK L 130 :: nthK L 131 :: nthK L 132 :: nthK L 133 :: nthK L 134 :: nthK L 135 :: nthK L 136 :: nthK L 137 :: nthK L 138 :: nthK L 139 :: nthK L 140 :: nthK L 141 :: nthK L 142 :: nthK L 143 :: nthK L 144 :: nthK L 145 :: nthK L 146 :: nthK L 147 :: nthK L 148 :: nthK L 149 :: nthK L 150 :: nthK L 151 :: nthK L 152 :: nthK L 153 :: nthK L 154 :: nthK L 155 :: nthK L 156 :: nthK L 157 :: nthK L 158 :: nthK L 159 :: nthK L 160 :: nthK L 161 :: nthK L 162 :: nthK L 163 :: nthK L 164 :: nthK L 165 :: nthK L 166 :: nthK L 167 :: nthK L 168 :: nthK L 169 :: nthK L 170 :: nthK L 171 :: nthK L 172 :: nthK L 173 :: nthK L 174 :: nthK L 175 :: nthK L 176 :: nthK L 177 :: nthK L 178 :: nthK L 179 :: nthK L 180 :: nthK L 181 :: nthK L 182 :: nthK L 183 :: nthK L 184 :: nthK L 185 :: nthK L 186 :: nthK L 187 :: nthK L 188 :: nthK L 189 :: nthK L 190 :: nthK L 191 :: nthK L 192 :: nthK L 193 :: nthK L 194 :: nthK L 195 :: nthK L 196 :: nthK L 197 :: nthK L 198 :: nthK L 199 :: nthK L 200 :: nthK L 201 :: nthK L 202 :: nthK L 203 :: nthK L 204 :: nthK L 205 :: nthK L 206 :: nthK L 207 :: nthK L 208 :: nthK L 209 :: nthK L 210 :: nthK L 211 :: nthK L 212 :: nthK L 213 :: nthK L 214 :: nthK L 215 :: nthK L 216 :: nthK L 217 :: nthK L 218 :: nthK L 219 :: nthK L 220 :: nthK L 221 :: nthK L 222 :: nthK L 223 :: nthK L 224 :: nthK L 225 :: nthK L 226 :: nthK L 227 :: nthK L 228 :: nthK L 229 :: nthK L 230 :: nthK L 231 :: nthK L 232 :: nthK L 233 :: nthK L 234 :: nthK L 235 :: nthK L 236 :: nthK L 237 :: nthK L 238 :: nthK L 239 :: nthK L 240 :: nthK L 241 :: nthK L 242 :: nthK L 243 :: nthK L 244 :: nthK L 245 :: nthK L 246 :: nthK L 247 :: nthK L 248 :: nthK L 249 :: nthK L 250 :: nthK L 251 :: nthK L 252 :: nthK L 253 :: nthK L 254 :: nthK L 255 :: nthK L 256 :: nthK L 257 :: nthK L 258 :: nthK L 259 :: nthK L 260 :: nthK L 261 :: nthK L 262 :: nthK L 263 :: nthK L 264 :: nthK L 265 :: nthK L 266 :: nthK L 267 :: nthK L 268 :: nthK L 269 :: nthK L 270 :: nthK L 271 :: nthK L 272 :: nthK L 273 :: nthK L 274 :: nthK L 275 :: nthK L 276 :: nthK L 277 :: nthK L 278 :: []) : BoF b0 wb av hv ov ev t { tmps := L.toArray, defers := [] } := ⟨fun k => nthK L k, by rw [← h]⟩
set_option maxRecDepth 100000 in
def BoI (b0 wb : Nat) (av hv ov ev : Value) (t : Nat) (tb i : Nat) (a : Act) : Prop := ∃ T : Nat → Value, a = { tmps := List.toArray (T 0 :: (.pointer (some ⟨b0, 0, none⟩)) :: T 2 :: T 3 :: T 4 :: T 5 :: (.pointer (some ⟨wb, 0, none⟩)) :: av :: hv :: ov :: ev :: (.int .i64 (t : Int)) :: (.pointer (some ⟨tb, 0, none⟩)) :: T 13 :: T 14 :: (.int .i64 (i : Int)) :: T 16 :: T 17 :: T 18 :: T 19 :: T 20 :: T 21 :: T 22 :: T 23 :: T 24 :: T 25 :: T 26 :: T 27 :: T 28 :: T 29 :: T 30 :: T 31 :: T 32 :: T 33 :: T 34 :: T 35 :: T 36 :: T 37 :: T 38 :: T 39 :: T 40 :: T 41 :: T 42 :: T 43 :: T 44 :: T 45 :: T 46 :: T 47 :: T 48 :: T 49 :: T 50 :: T 51 :: T 52 :: T 53 :: T 54 :: T 55 :: T 56 :: T 57 :: T 58 :: T 59 :: T 60 :: T 61 :: T 62 :: T 63 :: T 64 :: T 65 :: T 66 :: T 67 :: T 68 :: T 69 :: T 70 :: T 71 :: T 72 :: T 73 :: T 74 :: T 75 :: T 76 :: T 77 :: T 78 :: T 79 :: T 80 :: T 81 :: T 82 :: T 83 :: T 84 :: T 85 :: T 86 :: T 87 :: T 88 :: T 89 :: T 90 :: T 91 :: T 92 :: T 93 :: T 94 :: T 95 :: T 96 :: T 97 :: T 98 :: T 99 :: T 100 :: T 101 :: T 102 :: T 103 :: T 104 :: T 105 :: T 106 :: T 107 :: T 108 :: T 109 :: T 110 :: T 111 :: T 112 :: T 113 :: T 114 :: T 115 :: T 116 :: T 117 :: T 118 :: T 119 :: T 120 :: T 121 :: T 122 :: T 123 :: T 124 :: T 125 :: T 126 :: T 127 :: T 128 :: T 129 :: T 130 :: T 131 :: T 132 :: T 133 :: T 134 :: T 135 :: T 136 :: T 137 :: T 138 :: T 139 :: T 140 :: T 141 :: T 142 :: T 143 :: T 144 :: T 145 :: T 146 :: T 147 :: T 148 :: T 149 :: T 150 :: T 151 :: T 152 :: T 153 :: T 154 :: T 155 :: T 156 :: T 157 :: T 158 :: T 159 :: T 160 :: T 161 :: T 162 :: T 163 :: T 164 :: T 165 :: T 166 :: T 167 :: T 168 :: T 169 :: T 170 :: T 171 :: T 172 :: T 173 :: T 174 :: T 175 :: T 176 :: T 177 :: T 178 :: T 179 :: T 180 :: T 181 :: T 182 :: T 183 :: T 184 :: T 185 :: T 186 :: T 187 :: T 188 :: T 189 :: T 190 :: T 191 :: T 192 :: T 193 :: T 194 :: T 195 :: T 196 :: T 197 :: T 198 :: T 199 :: T 200 :: T 201 :: T 202 :: T 203 :: T 204 :: T 205 :: T 206 :: T 207 :: T 208 :: T 209 :: T 210 :: T 211 :: T 212 :: T 213 :: T 214 :: T 215 :: T 216 :: T 217 :: T 218 :: T 219 :: T 220 :: T 221 :: T 222 :: T 223 :: T 224 :: T 225 :: T 226 :: T 227 :: T 228 :: T 229 :: T 230 :: T 231 :: T 232 :: T 233 :: T 234 :: T 235 :: T 236 :: T 237 :: T 238 :: T 239 :: T 240 :: T 241 :: T 242 :: T 243 :: T 244 :: T 245 :: T 246 :: T 247 :: T 248 :: T 249 :: T 250 :: T 251 :: T 252 :: T 253 :: T 254 :: T 255 :: T 256 :: T 257 :: T 258 :: T 259 :: T 260 :: T 261 :: T 262 :: T 263 :: T 264 :: T 265 :: T 266 :: T 267 :: T 268 :: T 269 :: T 270 :: T 271 :: T 272 :: T 273 :: T 274 :: T 275 :: T 276 :: T 277 :: T 278 :: []), defers := [] }
set_option maxRecDepth 100000 in
theorem boI_of {b0 wb : Nat} {av hv ov ev : Value} {t : Nat} {tb i : Nat} (L : List Value) (h : L = nthK L 0 :: (.pointer (some ⟨b0, 0, none⟩)) :: nthK L 2 :: nthK L 3 :: nthK L 4 :: nthK L 5 :: (.pointer (some ⟨wb, 0, none⟩)) :: av :: hv :: ov :: ev :: (.int .i64 (t : Int)) :: (.pointer (some ⟨tb, 0, none⟩)) :: nthK L 13 :: nthK L 14 :: (.int .i64 (i : Int)) :: nthK L 16 :: nthK L 17 :: nthK L 18 :: nthK L 19 :: nthK L 20 :: nthK L 21 :: nthK L 22 :: nthK L 23 :: nthK L 24 :: nthK L 25 :: nthK L 26 :: nthK L 27 :: nthK L 28 :: nthK L 29 :: nthK L 30 :: nthK L 31 :: nthK L 32 :: nthK L 33 :: nthK L 34 :: nthK L 35 :: nthK L 36 :: nthK L 37 :: nthK L 38 :: nthK L 39 :: nthK L 40 :: nthK L 41 :: nthK L 42 :: nthK L 43 :: nthK L 44 :: nthK L 45 :: nthK L 46 :: nthK L 47 :: nthK L 48 :: nthK L 49 :: nthK L 50 :: nthK L 51 :: nthK L 52 :: nthK L 53 :: nthK L 54 :: nthK L 55 :: nthK L 56 :: nthK L 57 :: nthK L 58 :: nthK L 59 :: nthK L 60 :: nthK L 61 :: nthK L 62 :: nthK L 63 :: nthK L 64 :: nthK L 65 :: nthK L 66 :: nthK L 67 :: nthK L 68 :: nthK L 69 :: nthK L 70 :: nthK L 71 :: nthK L 72 :: nthK L 73 :: nthK L 74 :: nthK L 75 :: nthK L 76 :: nthK L 77 :: nthK L 78 :: nthK L 79 :: nthK L 80 :: nthK L 81 :: nthK L 82 :: nthK L 83 :: nthK L 84 :: nthK L 85 :: nthK L 86 :: nthK L 87 :: nthK L 88 :: nthK L 89 :: nthK L 90 :: nthK L 91 :: nthK L 92 :: nthK L 93 :: nthK L 94 :: nthK L 95 :: nthK L 96 :: nthK L 97 :: nthK L 98 :: nthK L 99 :: nthK L 100 :: nthK L 101 :: nthK L 102 :: nthK L 103 :: nthK L 104 :: nthK L 105 :: nthK L 106 :: nthK L 107 :: nthK L 108 :: nthK L 109 :: nthK L 110 :: nthK L 111 :: nthK L 112 :: nthK L 113 :: nthK L 114 :: nthK L 115 :: nthK L 116 :: nthK L 117 :: nthK L 118 :: nthK L 119 :: nthK L 120 :: nthK L 121 :: nthK L 122 :: nthK L 123 :: nthK L 124 :: nthK L 125 :: nthK L 126 :: nthK L 127 :: nthK L 128 :: nthK L 129 :: nthK L 130 :: nthK L 131 :: nthK L 132 :: nthK L 133 :: nthK L 134 :: nthK L 135 :: nthK L 136 :: nthK L 137 :: nthK L 138 :: nthK L 139 :: nthK L 140 :: nthK L 141 :: nthK L 142 :: nthK L 143 :: nthK L 144 :: nthK L 145 :: nthK L 146 :: nthK L 147 :: nthK L 148 :: nthK L 149 :: nthK L 150 :: nthK L 151 :: nthK L 152 :: nthK L 153 :: nthK L 154 :: nthK L 155 :: nthK L 156 :: nthK L 157 :: nthK L 158 :: nthK L 159 :: nthK L 160 :: nthK L 161 :: nthK L 162 :: nthK L 163 :: nthK L 164 :: nthK L 165 :: nthK L 166 :: nthK L 167 :: nthK L 168 :: nthK L 169 :: nthK L 170 :: nthK L 171 :: nthK L 172 :: nthK L 173 :: nthK L 174 :: nthK L 175 :: nthK L 176 :: nthK L 177 :: nthK L 178 :: nthK L 179 :: nthK L 180 :: nthK L 181 :: nthK L 182 :: nthK L 183 :: nthK L 184 :: nthK L 185 :: nthK L 186 :: nthK L 187 :: nthK L 188 :: nthK L 189 :: nthK L 190 :: nthK L 191 :: nthK L 192 :: nthK L 193 :: nthK L 194 :: nthK L 195 :: nthK L 196 :: nthK L 197 :: nthK L 198 :: nthK L 199 :: nthK L 200 :: nthK L 201 :: nthK L 202 :: nthK L 203 :: nthK L 204 :: nthK L 205 :: nthK L 206 :: nthK L 207 :: nthK L 208 :: nthK L 209 :: nthK L 210 :: nthK L 211 :: nthK L 212 :: nthK L 213 :: nthK L 214 :: nthK L 215 :: nthK L 216 :: nthK L 217 :: nthK L 218 :: nthK L 219 :: nthK L 220 :: nthK L 221 :: nthK L 222 :: nthK L 223 :: nthK L 224 :: nthK L 225 :: nthK L 226 :: nthK L 227 :: nthK L 228 :: nthK L 229 :: nthK L 230 :: nthK L 231 :: nthK L 232 :: nthK L 233 :: nthK L 234 :: nthK L 235 :: nthK L 236 :: nthK L 237 :: nthK L 238 :: nthK L 239 :: nthK L 240 :: nthK L 241 :: nthK L 242 :: nthK L 243 :: nthK L 244 :: nthK L 245 :: nthK L 246 :: nthK L 247 :: nthK L 248 :: nthK L 249 :: nthK L 250 :: nthK L 251 :: nthK L 252 :: nthK L 253 :: nthK L 254 :: nthK L 255 :: nthK L 256 :: nthK L 257 :: nthK L 258 :: nthK L 259 :: nthK L 260 :: nthK L 261 :: nthK L 262 :: nthK L 263 :: nthK L 264 :: nthK L 265 :: nthK L 266 :: nthK L 267 :: nthK L 268 :: nthK L 269 :: nthK L 270 :: nthK L 271 :: nthK L 272 :: nthK L 273 :: nthK L 274 :: nthK L 275 :: nthK L 276 :: nthK L 277 :: nthK L 278 :: []) : BoI b0 wb av hv ov ev t tb i { tmps := L.toArray, defers := [] } := ⟨fun k => nthK L k, by rw [← h]⟩
set_option maxRecDepth 100000 in
def BoJ (b0 wb : Nat) (av hv ov ev : Value) (t : Nat) (tb i : Nat) (v17 : Value) (fb : Nat) (a : Act) : Prop := ∃ T : Nat → Value, a = { tmps := List.toArray (T 0 :: (.pointer (some ⟨b0, 0, none⟩)) :: T 2 :: T 3 :: T 4 :: T 5 :: (.pointer (some ⟨wb, 0, none⟩)) :: av :: hv :: ov :: ev :: (.int .i64 (t : Int)) :: (.pointer (some ⟨tb, 0, none⟩)) :: T 13 :: T 14 :: (.int .i64 (i : Int)) :: T 16 :: v17 :: (.pointer (some ⟨fb, 0, none⟩)) :: T 19 :: T 20 :: T 21 :: T 22 :: T 23 :: T 24 :: T 25 :: T 26 :: T 27 :: T 28 :: T 29 :: T 30 :: T 31 :: T 32 :: T 33 :: T 34 :: T 35 :: T 36 :: T 37 :: T 38 :: T 39 :: T 40 :: T 41 :: T 42 :: T 43 :: T 44 :: T 45 :: T 46 :: T 47 :: T 48 :: T 49 :: T 50 :: T 51 :: T 52 :: T 53 :: T 54 :: T 55 :: T 56 :: T 57 :: T 58 :: T 59 :: T 60 :: T 61 :: T 62 :: T 63 :: T 64 :: T 65 :: T 66 :: T 67 :: T 68 :: T 69 :: T 70 :: T 71 :: T 72 :: T 73 :: T 74 :: T 75 :: T 76 :: T 77 :: T 78 :: T 79 :: T 80 :: T 81 :: T 82 :: T 83 :: T 84 :: T 85 :: T 86 :: T 87 :: T 88 :: T 89 :: T 90 :: T 91 :: T 92 :: T 93 :: T 94 :: T 95 :: T 96 :: T 97 :: T 98 :: T 99 :: T 100 :: T 101 :: T 102 :: T 103 :: T 104 :: T 105 :: T 106 :: T 107 :: T 108 :: T 109 :: T 110 :: T 111 :: T 112 :: T 113 :: T 114 :: T 115 :: T 116 :: T 117 :: T 118 :: T 119 :: T 120 :: T 121 :: T 122 :: T 123 :: T 124 :: T 125 :: T 126 :: T 127 :: T 128 :: T 129 :: T 130 :: T 131 :: T 132 :: T 133 :: T 134 :: T 135 :: T 136 :: T 137 :: T 138 :: T 139 :: T 140 :: T 141 :: T 142 :: T 143 :: T 144 :: T 145 :: T 146 :: T 147 :: T 148 :: T 149 :: T 150 :: T 151 :: T 152 :: T 153 :: T 154 :: T 155 :: T 156 :: T 157 :: T 158 :: T 159 :: T 160 :: T 161 :: T 162 :: T 163 :: T 164 :: T 165 :: T 166 :: T 167 :: T 168 :: T 169 :: T 170 :: T 171 :: T 172 :: T 173 :: T 174 :: T 175 :: T 176 :: T 177 :: T 178 :: T 179 :: T 180 :: T 181 :: T 182 :: T 183 :: T 184 :: T 185 :: T 186 :: T 187 :: T 188 :: T 189 :: T 190 :: T 191 :: T 192 :: T 193 :: T 194 :: T 195 :: T 196 :: T 197 :: T 198 :: T 199 :: T 200 :: T 201 :: T 202 :: T 203 :: T 204 :: T 205 :: T 206 :: T 207 :: T 208 :: T 209 :: T 210 :: T 211 :: T 212 :: T 213 :: T 214 :: T 215 :: T 216 :: T 217 :: T 218 :: T 219 :: T 220 :: T 221 :: T 222 :: T 223 :: T 224 :: T 225 :: T 226 :: T 227 :: T 228 :: T 229 :: T 230 :: T 231 :: T 232 :: T 233 :: T 234 :: T 235 :: T 236 :: T 237 :: T 238 :: T 239 :: T 240 :: T 241 :: T 242 :: T 243 :: T 244 :: T 245 :: T 246 :: T 247 :: T 248 :: T 249 :: T 250 :: T 251 :: T 252 :: T 253 :: T 254 :: T 255 :: T 256 :: T 257 :: T 258 :: T 259 :: T 260 :: T 261 :: T 262 :: T 263 :: T 264 :: T 265 :: T 266 :: T 267 :: T 268 :: T 269 :: T 270 :: T 271 :: T 272 :: T 273 :: T 274 :: T 275 :: T 276 :: T 277 :: T 278 :: []), defers := [] }
set_option maxRecDepth 100000 in
theorem boJ_of {b0 wb : Nat} {av hv ov ev : Value} {t : Nat} {tb i : Nat} {v17 : Value} {fb : Nat} (L : List Value) (h : L = nthK L 0 :: (.pointer (some ⟨b0, 0, none⟩)) :: nthK L 2 :: nthK L 3 :: nthK L 4 :: nthK L 5 :: (.pointer (some ⟨wb, 0, none⟩)) :: av :: hv :: ov :: ev :: (.int .i64 (t : Int)) :: (.pointer (some ⟨tb, 0, none⟩)) :: nthK L 13 :: nthK L 14 :: (.int .i64 (i : Int)) :: nthK L 16 :: v17 :: (.pointer (some ⟨fb, 0, none⟩)) :: nthK L 19 :: nthK L 20 :: nthK L 21 :: nthK L 22 :: nthK L 23 :: nthK L 24 :: nthK L 25 :: nthK L 26 :: nthK L 27 :: nthK L 28 :: nthK L 29 :: nthK L 30 :: nthK L 31 :: nthK L 32 :: nthK L 33 :: nthK L 34 :: nthK L 35 :: nthK L 36 :: nthK L 37 :: nthK L 38 :: nthK L 39 :: nthK L 40 :: nthK L 41 :: nthK L 42 :: nthK L 43 :: nthK L 44 :: nthK L 45 :: nthK L 46 :: nthK L 47 :: nthK L 48 :: nthK L 49 :: nthK L 50 :: nthK L 51 :: nthK L 52 :: nthK L 53 :: nthK L 54 :: nthK L 55 :: nthK L 56 :: nthK L 57 :: nthK L 58 :: nthK L 59 :: nthK L 60 :: nthK L 61 :: nthK L 62 :: nthK L 63 :: nthK L 64 :: nthK L 65 :: nthK L 66 :: nthK L 67 :: nthK L 68 :: nthK L 69 :: nthK L 70 :: nthK L 71 :: nthK L 72 :: nthK L 73 :: nthK L 74 :: nthK L 75 :: nthK L 76 :: nthK L 77 :: nthK L 78 :: nthK L 79 :: nthK L 80 :: nthK L 81 :: nthK L 82 :: nthK L 83 :: nthK L 84 :: nthK L 85 :: nthK L 86 :: nthK L 87 :: nthK L 88 :: nthK L 89 :: nthK L 90 :: nthK L 91 :: nthK L 92 :: nthK L 93 :: nthK L 94 :: nthK L 95 :: nthK L 96 :: nthK L 97 :: nthK L 98 :: nthK L 99 :: nthK L 100 :: nthK L 101 :: nthK L 102 :: nthK L 103 :: nthK L 104 :: nthK L 105 :: nthK L 106 :: nthK L 107 :: nthK L 108 :: nthK L 109 :: nthK L 110 :: nthK L 111 :: nthK L 112 :: nthK L 113 :: nthK L 114 :: nthK L 115 :: nthK L 116 :: nthK L 117 :: nthK L 118 :: nthK L 119 :: nthK L 120 :: nthK L 121 :: nthK L 122 :: nthK L 123 :: nthK L 124 :: nthK L 125 :: nthK L 126 :: nthK L 127 :: nthK L 128 :: nthK L 129 :: nthK L 130 :: nthK L 131 :: nthK L 132 :: nthK L 133 :: nthK L 134 :: nthK L 135 :: nthK L 136 :: nthK L 137 :: nthK L 138 :: nthK L 139 :: nthK L 140 :: nthK L 141 :: nthK L 142 :: nthK L 143 :: nthK L 144 :: nthK L 145 :: nthK L 146 :: nthK L 147 :: nthK L 148 :: nthK L 149 :: nthK L 150 :: nthK L 151 :: nthK L 152 :: nthK L 153 :: nthK L 154 :: nthK L 155 :: nthK L 156 :: nthK L 157 :: nthK L 158 :: nthK L 159 :: nthK L 160 :: nthK L 161 :: nthK L 162 :: nthK L 163 :: nthK L 164 :: nthK L 165 :: nthK L 166 :: nthK L 167 :: nthK L 168 :: nthK L 169 :: nthK L 170 :: nthK L 171 :: nthK L 172 :: nthK L 173 :: nthK L 174 :: nthK L 175 :: nthK L 176 :: nthK L 177 :: nthK L 178 :: nthK L 179 :: nthK L 180 :: nthK L 181 :: nthK L 182 :: nthK L 183 :: nthK L 184 :: nthK L 185 :: nthK L 186 :: nthK L 187 :: nthK L 188 :: nthK L 189 :: nthK L 190 :: nthK L 191 :: nthK L 192 :: nthK L 193 :: nthK L 194 :: nthK L 195 :: nthK L 196 :: nthK L 197 :: nthK L 198 :: nthK L 199 :: nthK L 200 :: nthK L 201 :: nthK L 202 :: nthK L 203 :: nthK L 204 :: nthK L 205 :: nthK L 206 :: nthK L 207 :: nthK L 208 :: nthK L 209 :: nthK L 210 :: nthK L 211 :: nthK L 212 :: nthK L 213 :: nthK L 214 :: nthK L 215 :: nthK L 216 :: nthK L 217 :: nthK L 218 :: nthK L 219 :: nthK L 220 :: nthK L 221 :: nthK L 222 :: nthK L 223 :: nthK L 224 :: nthK L 225 :: nthK L 226 :: nthK L 227 :: nthK L 228 :: nthK L 229 :: nthK L 230 :: nthK L 231 :: nthK L 232 :: nthK L 233 :: nthK L 234 :: nthK L 235 :: nthK L 236 :: nthK L 237 :: nthK L 238 :: nthK L 239 :: nthK L 240 :: nthK L 241 :: nthK L 242 :: nthK L 243 :: nthK L 244 :: nthK L 245 :: nthK L 246 :: nthK L 247 :: nthK L 248 :: nthK L 249 :: nthK L 250 :: nthK L 251 :: nthK L 252 :: nthK L 253 :: nthK L 254 :: nthK L 255 :: nthK L 256 :: nthK L 257 :: nthK L 258 :: nthK L 259 :: nthK L 260 :: nthK L 261 :: nthK L 262 :: nthK L 263 :: nthK L 264 :: nthK L 265 :: nthK L 266 :: nthK L 267 :: nthK L 268 :: nthK L 269 :: nthK L 270 :: nthK L 271 :: nthK L 272 :: nthK L 273 :: nthK L 274 :: nthK L 275 :: nthK L 276 :: nthK L 277 :: nthK L 278 :: []) : BoJ b0 wb av hv ov ev t tb i v17 fb { tmps := L.toArray, defers := [] } := ⟨fun k => nthK L k, by rw [← h]⟩
set_option maxRecDepth 100000 in
def BoR  (a : Act) : Prop := ∃ T : Nat → Value, a = { tmps := List.toArray (T 0 :: T 1 :: (.bool true) :: T 3 :: T 4 :: T 5 :: T 6 :: T 7 :: T 8 :: T 9 :: T 10 :: T 11 :: T 12 :: T 13 :: T 14 :: T 15 :: T 16 :: T 17 :: T 18 :: T 19 :: T 20 :: T 21 :: T 22 :: T 23 :: T 24 :: T 25 :: T 26 :: T 27 :: T 28 :: T 29 :: T 30 :: T 31 :: T 32 :: T 33 :: T 34 :: T 35 :: T 36 :: T 37 :: T 38 :: T 39 :: T 40 :: T 41 :: T 42 :: T 43 :: T 44 :: T 45 :: T 46 :: T 47 :: T 48 :: T 49 :: T 50 :: T 51 :: T 52 :: T 53 :: T 54 :: T 55 :: T 56 :: T 57 :: T 58 :: T 59 :: T 60 :: T 61 :: T 62 :: T 63 :: T 64 :: T 65 :: T 66 :: T 67 :: T 68 :: T 69 :: T 70 :: T 71 :: T 72 :: T 73 :: T 74 :: T 75 :: T 76 :: T 77 :: T 78 :: T 79 :: T 80 :: T 81 :: T 82 :: T 83 :: T 84 :: T 85 :: T 86 :: T 87 :: T 88 :: T 89 :: T 90 :: T 91 :: T 92 :: T 93 :: T 94 :: T 95 :: T 96 :: T 97 :: T 98 :: T 99 :: T 100 :: T 101 :: T 102 :: T 103 :: T 104 :: T 105 :: T 106 :: T 107 :: T 108 :: T 109 :: T 110 :: T 111 :: T 112 :: T 113 :: T 114 :: T 115 :: T 116 :: T 117 :: T 118 :: T 119 :: T 120 :: T 121 :: T 122 :: T 123 :: T 124 :: T 125 :: T 126 :: T 127 :: T 128 :: T 129 :: T 130 :: T 131 :: T 132 :: T 133 :: T 134 :: T 135 :: T 136 :: T 137 :: T 138 :: T 139 :: T 140 :: T 141 :: T 142 :: T 143 :: T 144 :: T 145 :: T 146 :: T 147 :: T 148 :: T 149 :: T 150 :: T 151 :: T 152 :: T 153 :: T 154 :: T 155 :: T 156 :: T 157 :: T 158 :: T 159 :: T 160 :: T 161 :: T 162 :: T 163 :: T 164 :: T 165 :: T 166 :: T 167 :: T 168 :: T 169 :: T 170 :: T 171 :: T 172 :: T 173 :: T 174 :: T 175 :: T 176 :: T 177 :: T 178 :: T 179 :: T 180 :: T 181 :: T 182 :: T 183 :: T 184 :: T 185 :: T 186 :: T 187 :: T 188 :: T 189 :: T 190 :: T 191 :: T 192 :: T 193 :: T 194 :: T 195 :: T 196 :: T 197 :: T 198 :: T 199 :: T 200 :: T 201 :: T 202 :: T 203 :: T 204 :: T 205 :: T 206 :: T 207 :: T 208 :: T 209 :: T 210 :: T 211 :: T 212 :: T 213 :: T 214 :: T 215 :: T 216 :: T 217 :: T 218 :: T 219 :: T 220 :: T 221 :: T 222 :: T 223 :: T 224 :: T 225 :: T 226 :: T 227 :: T 228 :: T 229 :: T 230 :: T 231 :: T 232 :: T 233 :: T 234 :: T 235 :: T 236 :: T 237 :: T 238 :: T 239 :: T 240 :: T 241 :: T 242 :: T 243 :: T 244 :: T 245 :: T 246 :: T 247 :: T 248 :: T 249 :: T 250 :: T 251 :: T 252 :: T 253 :: T 254 :: T 255 :: T 256 :: T 257 :: T 258 :: T 259 :: T 260 :: T 261 :: T 262 :: T 263 :: T 264 :: T 265 :: T 266 :: T 267 :: T 268 :: T 269 :: T 270 :: T 271 :: T 272 :: T 273 :: T 274 :: T 275 :: T 276 :: T 277 :: T 278 :: []), defers := [] }
set_option maxRecDepth 100000 in
theorem boR_of  (L : List Value) (h : L = nthK L 0 :: nthK L 1 :: (.bool true) :: nthK L 3 :: nthK L 4 :: nthK L 5 :: nthK L 6 :: nthK L 7 :: nthK L 8 :: nthK L 9 :: nthK L 10 :: nthK L 11 :: nthK L 12 :: nthK L 13 :: nthK L 14 :: nthK L 15 :: nthK L 16 :: nthK L 17 :: nthK L 18 :: nthK L 19 :: nthK L 20 :: nthK L 21 :: nthK L 22 :: nthK L 23 :: nthK L 24 :: nthK L 25 :: nthK L 26 :: nthK L 27 :: nthK L 28 :: nthK L 29 :: nthK L 30 :: nthK L 31 :: nthK L 32 :: nthK L 33 :: nthK L 34 :: nthK L 35 :: nthK L 36 :: nthK L 37 :: nthK L 38 :: nthK L 39 :: nthK L 40 :: nthK L 41 :: nthK L 42 :: nthK L 43 :: nthK L 44 :: nthK L 45 :: nthK L 46 :: nthK L 47 :: nthK L 48 :: nthK L 49 :: nthK L 50 :: nthK L 51 :: nthK L 52 :: nthK L 53 :: nthK L 54 :: nthK L 55 :: nthK L 56 :: nthK L 57 :: nthK L 58 :: nthK L 59 :: nthK L 60 :: nthK L 61 :: nthK L 62 :: nthK L 63 :: nthK L 64 :: nthK L 65 :: nthK L 66 :: nthK L 67 :: nthK L 68 :: nthK L 69 :: nthK L 70 :: nthK L 71 :: nthK L 72 :: nthK L 73 :: nthK L 74 :: nthK L 75 :: nthK L 76 :: nthK L 77 :: nthK L 78 :: nthK L 79 :: nthK L 80 :: nthK L 81 :: nthK L 82 :: nthK L 83 :: nthK L 84 :: nthK L 85 :: nthK L 86 :: nthK L 87 :: nthK L 88 :: nthK L 89 :: nthK L 90 :: nthK L 91 :: nthK L 92 :: nthK L 93 :: nthK L 94 :: nthK L 95 :: nthK L 96 :: nthK L 97 :: nthK L 98 :: nthK L 99 :: nthK L 100 :: nthK L 101 :: nthK L 102 :: nthK L 103 :: nthK L 104 :: nthK L 105 :: nthK L 106 :: nthK L 107 :: nthK L 108 :: nthK L 109 :: nthK L 110 :: nthK L 111 :: nthK L 112 :: nthK L 113 :: nthK L 114 :: nthK L 115 :: nthK L 116 :: nthK L 117 :: nthK L 118 :: nthK L 119 :: nthK L 120 :: nthK L 121 :: nthK L 122 :: nthK L 123 :: nthK L 124 :: nthK L 125 :: nthK L 126 :: nthK L 127 :: nthK L 128 :: nthK L 129 :: nthK L 130 :: nthK L 131 :: nthK L 132 :: nthK L 133 :: nthK L 134 :: nthK L 135 :: nthK L 136 :: nthK L 137 :: nthK L 138 :: nthK L 139 :: nthK L 140 :: nthK L 141 :: nthK L 142 :: nthK L 143 :: nthK L 144 :: nthK L 145 :: nthK L 146 :: nthK L 147 :: nthK L 148 :: nthK L 149 :: nthK L 150 :: nthK L 151 :: nthK L 152 :: nthK L 153 :: nthK L 154 :: nthK L 155 :: nthK L 156 :: nthK L 157 :: nthK L 158 :: nthK L 159 :: nthK L 160 :: nthK L 161 :: nthK L 162 :: nthK L 163 :: nthK L 164 :: nthK L 165 :: nthK L 166 :: nthK L 167 :: nthK L 168 :: nthK L 169 :: nthK L 170 :: nthK L 171 :: nthK L 172 :: nthK L 173 :: nthK L 174 :: nthK L 175 :: nthK L 176 :: nthK L 177 :: nthK L 178 :: nthK L 179 :: nthK L 180 :: nthK L 181 :: nthK L 182 :: nthK L 183 :: nthK L 184 :: nthK L 185 :: nthK L 186 :: nthK L 187 :: nthK L 188 :: nthK L 189 :: nthK L 190 :: nthK L 191 :: nthK L 192 :: nthK L 193 :: nthK L 194 :: nthK L 195 :: nthK L 196 :: nthK L 197 :: nthK L 198 :: nthK L 199 :: nthK L 200 :: nthK L 201 :: nthK L 202 :: nthK L 203 :: nthK L 204 :: nthK L 205 :: nthK L 206 :: nthK L 207 :: nthK L 208 :: nthK L 209 :: nthK L 210 :: nthK L 211 :: nthK L 212 :: nthK L 213 :: nthK L 214 :: nthK L 215 :: nthK L 216 :: nthK L 217 :: nthK L 218 :: nthK L 219 :: nthK L 220 :: nthK L 221 :: nthK L 222 :: nthK L 223 :: nthK L 224 :: nthK L 225 :: nthK L 226 :: nthK L 227 :: nthK L 228 :: nthK L 229 :: nthK L 230 :: nthK L 231 :: nthK L 232 :: nthK L 233 :: nthK L 234 :: nthK L 235 :: nthK L 236 :: nthK L 237 :: nthK L 238 :: nthK L 239 :: nthK L 240 :: nthK L 241 :: nthK L 242 :: nthK L 243 :: nthK L 244 :: nthK L 245 :: nthK L 246 :: nthK L 247 :: nthK L 248 :: nthK L 249 :: nthK L 250 :: nthK L 251 :: nthK L 252 :: nthK L 253 :: nthK L 254 :: nthK L 255 :: nthK L 256 :: nthK L 257 :: nthK L 258 :: nthK L 259 :: nthK L 260 :: nthK L 261 :: nthK L 262 :: nthK L 263 :: nthK L 264 :: nthK L 265 :: nthK L 266 :: nthK L 267 :: nthK L 268 :: nthK L 269 :: nthK L 270 :: nthK L 271 :: nthK L 272 :: nthK L 273 :: nthK L 274 :: nthK L 275 :: nthK L 276 :: nthK L 277 :: nthK L 278 :: []) : BoR  { tmps := L.toArray, defers := [] } := ⟨fun k => nthK L k, by rw [← h]⟩
set_option maxRecDepth 100000 in
def BoT (b0 wb : Nat) (av hv ov ev : Value) (t : Nat) (v20 : Value) (fb : Nat) (a : Act) : Prop := ∃ T : Nat → Value, a = { tmps := List.toArray (T 0 :: (.pointer (some ⟨b0, 0, none⟩)) :: T 2 :: T 3 :: T 4 :: T 5 :: (.pointer (some ⟨wb, 0, none⟩)) :: av :: hv :: ov :: ev :: (.int .i64 (t : Int)) :: T 12 :: T 13 :: T 14 :: T 15 :: T 16 :: T 17 :: T 18 :: T 19 :: v20 :: (.pointer (some ⟨fb, 0, none⟩)) :: T 22 :: T 23 :: T 24 :: T 25 :: T 26 :: T 27 :: T 28 :: T 29 :: T 30 :: T 31 :: T 32 :: T 33 :: T 34 :: T 35 :: T 36 :: T 37 :: T 38 :: T 39 :: T 40 :: T 41 :: T 42 :: T 43 :: T 44 :: T 45 :: T 46 :: T 47 :: T 48 :: T 49 :: T 50 :: T 51 :: T 52 :: T 53 :: T 54 :: T 55 :: T 56 :: T 57 :: T 58 :: T 59 :: T 60 :: T 61 :: T 62 :: T 63 :: T 64 :: T 65 :: T 66 :: T 67 :: T 68 :: T 69 :: T 70 :: T 71 :: T 72 :: T 73 :: T 74 :: T 75 :: T 76 :: T 77 :: T 78 :: T 79 :: T 80 :: T 81 :: T 82 :: T 83 :: T 84 :: T 85 :: T 86 :: T 87 :: T 88 :: T 89 :: T 90 :: T 91 :: T 92 :: T 93 :: T 94 :: T 95 :: T 96 :: T 97 :: T 98 :: T 99 :: T 100 :: T 101 :: T 102 :: T 103 :: T 104 :: T 105 :: T 106 :: T 107 :: T 108 :: T 109 :: T 110 :: T 111 :: T 112 :: T 113 :: T 114 :: T 115 :: T 116 :: T 117 :: T 118 :: T 119 :: T 120 :: T 121 :: T 122 :: T 123 :: T 124 :: T 125 :: T 126 :: T 127 :: T 128 :: T 129 :: T 130 :: T 131 :: T 132 :: T 133 :: T 134 :: T 135 :: T 136 :: T 137 :: T 138 :: T 139 :: T 140 :: T 141 :: T 142 :: T 143 :: T 144 :: T 145 :: T 146 :: T 147 :: T 148 :: T 149 :: T 150 :: T 151 :: T 152 :: T 153 :: T 154 :: T 155 :: T 156 :: T 157 :: T 158 :: T 159 :: T 160 :: T 161 :: T 162 :: T 163 :: T 164 :: T 165 :: T 166 :: T 167 :: T 168 :: T 169 :: T 170 :: T 171 :: T 172 :: T 173 :: T 174 :: T 175 :: T 176 :: T 177 :: T 178 :: T 179 :: T 180 :: T 181 :: T 182 :: T 183 :: T 184 :: T 185 :: T 186 :: T 187 :: T 188 :: T 189 :: T 190 :: T 191 :: T 192 :: T 193 :: T 194 :: T 195 :: T 196 :: T 197 :: T 198 :: T 199 :: T 200 :: T 201 :: T 202 :: T 203 :: T 204 :: T 205 :: T 206 :: T 207 :: T 208 :: T 209 :: T 210 :: T 211 :: T 212 :: T 213 :: T 214 :: T 215 :: T 216 :: T 217 :: T 218 :: T 219 :: T 220 :: T 221 :: T 222 :: T 223 :: T 224 :: T 225 :: T 226 :: T 227 :: T 228 :: T 229 :: T 230 :: T 231 :: T 232 :: T 233 :: T 234 :: T 235 :: T 236 :: T 237 :: T 238 :: T 239 :: T 240 :: T 241 :: T 242 :: T 243 :: T 244 :: T 245 :: T 246 :: T 247 :: T 248 :: T 249 :: T 250 :: T 251 :: T 252 :: T 253 :: T 254 :: T 255 :: T 256 :: T 257 :: T 258 :: T 259 :: T 260 :: T 261 :: T 262 :: T 263 :: T 264 :: T 265 :: T 266 :: T 267 :: T 268 :: T 269 :: T 270 :: T 271 :: T 272 :: T 273 :: T 274 :: T 275 :: T 276 :: T 277 :: T 278 :: []), defers := [] }
set_option maxRecDepth 100000 in
theorem boT_of {b0 wb : Nat} {av hv ov ev : Value} {t : Nat} {v20 : Value} {fb : Nat} (L : List Value) (h : L = nthK L 0 :: (.pointer (some ⟨b0, 0, none⟩)) :: nthK L 2 :: nthK L 3 :: nthK L 4 :: nthK L 5 :: (.pointer (some ⟨wb, 0, none⟩)) :: av :: hv :: ov :: ev :: (.int .i64 (t : Int)) :: nthK L 12 :: nthK L 13 :: nthK L 14 :: nthK L 15 :: nthK L 16 :: nthK L 17 :: nthK L 18 :: nthK L 19 :: v20 :: (.pointer (some ⟨fb, 0, none⟩)) :: nthK L 22 :: nthK L 23 :: nthK L 24 :: nthK L 25 :: nthK L 26 :: nthK L 27 :: nthK L 28 :: nthK L 29 :: nthK L 30 :: nthK L 31 :: nthK L 32 :: nthK L 33 :: nthK L 34 :: nthK L 35 :: nthK L 36 :: nthK L 37 :: nthK L 38 :: nthK L 39 :: nthK L 40 :: nthK L 41 :: nthK L 42 :: nthK L 43 :: nthK L 44 :: nthK L 45 :: nthK L 46 :: nthK L 47 :: nthK L 48 :: nthK L 49 :: nthK L 50 :: nthK L 51 :: nthK L 52 :: nthK L 53 :: nthK L 54 :: nthK L 55 :: nthK L 56 :: nthK L 57 :: nthK L 58 :: nthK L 59 :: nthK L 60 :: nthK L 61 :: nthK L 62 :: nthK L 63 :: nthK L 64 :: nthK L 65 :: nthK L 66 :: nthK L 67 :: nthK L 68 :: nthK L 69 :: nthK L 70 :: nthK L 71 :: nthK L 72 :: nthK L 73 :: nthK L 74 :: nthK L 75 :: nthK L 76 :: nthK L 77 :: nthK L 78 :: nthK L 79 :: nthK L 80 :: nthK L 81 :: nthK L 82 :: nthK L 83 :: nthK L 84 :: nthK L 85 :: nthK L 86 :: nthK L 87 :: nthK L 88 :: nthK L 89 :: nthK L 90 :: nthK L 91 :: nthK L 92 :: nthK L 93 :: nthK L 94 :: nthK L 95 :: nthK L 96 :: nthK L 97 :: nthK L 98 :: nthK L 99 :: nthK L 100 :: nthK L 101 :: nthK L 102 :: nthK L 103 :: nthK L 104 :: nthK L 105 :: nthK L 106 :: nthK L 107 :: nthK L 108 :: nthK L 109 :: nthK L 110 :: nthK L 111 :: nthK L 112 :: nthK L 113 :: nthK L 114 :: nthK L 115 :: nthK L 116 :: nthK L 117 :: nthK L 118 :: nthK L 119 :: nthK L 120 :: nthK L 121 :: nthK L 122 :: nthK L 123 :: nthK L 124 :: nthK L 125 :: nthK L 126 :: nthK L 127 :: nthK L 128 :: nthK L 129 :: nthK L 130 :: nthK L 131 :: nthK L 132 :: nthK L 133 :: nthK L 134 :: nthK L 135 :: nthK L 136 :: nthK L 137 :: nthK L 138 :: nthK L 139 :: nthK L 140 :: nthK L 141 :: nthK L 142 :: nthK L 143 :: nthK L 144 :: nthK L 145 :: nthK L 146 :: nthK L 147 :: nthK L 148 :: nthK L 149 :: nthK L 150 :: nthK L 151 :: nthK L 152 :: nthK L 153 :: nthK L 154 :: nthK L 155 :: nthK L 156 :: nthK L 157 :: nthK L 158 :: nthK L 159 :: nthK L 160 :: nthK L 161 :: nthK L 162 :: nthK L 163 :: nthK L 164 :: nthK L 165 :: nthK L 166 :: nthK L 167 :: nthK L 168 :: nthK L 169 :: nthK L 170 :: nthK L 171 :: nthK L 172 :: nthK L 173 :: nthK L 174 :: nthK L 175 :: nthK L 176 :: nthK L 177 :: nthK L 178 :: nthK L 179 :: nthK L 180 :: nthK L 181 :: nthK L 182 :: nthK L 183 :: nthK L 184 :: nthK L 185 :: nthK L 186 :: nthK L 187 :: nthK L 188 :: nthK L 189 :: nthK L 190 :: nthK L 191 :: nthK L 192 :: nthK L 193 :: nthK L 194 :: nthK L 195 :: nthK L 196 :: nthK L 197 :: nthK L 198 :: nthK L 199 :: nthK L 200 :: nthK L 201 :: nthK L 202 :: nthK L 203 :: nthK L 204 :: nthK L 205 :: nthK L 206 :: nthK L 207 :: nthK L 208 :: nthK L 209 :: nthK L 210 :: nthK L 211 :: nthK L 212 :: nthK L 213 :: nthK L 214 :: nthK L 215 :: nthK L 216 :: nthK L 217 :: nthK L 218 :: nthK L 219 :: nthK L 220 :: nthK L 221 :: nthK L 222 :: nthK L 223 :: nthK L 224 :: nthK L 225 :: nthK L 226 :: nthK L 227 :: nthK L 228 :: nthK L 229 :: nthK L 230 :: nthK L 231 :: nthK L 232 :: nthK L 233 :: nthK L 234 :: nthK L 235 :: nthK L 236 :: nthK L 237 :: nthK L 238 :: nthK L 239 :: nthK L 240 :: nthK L 241 :: nthK L 242 :: nthK L 243 :: nthK L 244 :: nthK L 245 :: nthK L 246 :: nthK L 247 :: nthK L 248 :: nthK L 249 :: nthK L 250 :: nthK L 251 :: nthK L 252 :: nthK L 253 :: nthK L 254 :: nthK L 255 :: nthK L 256 :: nthK L 257 :: nthK L 258 :: nthK L 259 :: nthK L 260 :: nthK L 261 :: nthK L 262 :: nthK L 263 :: nthK L 264 :: nthK L 265 :: nthK L 266 :: nthK L 267 :: nthK L 268 :: nthK L 269 :: nthK L 270 :: nthK L 271 :: nthK L 272 :: nthK L 273 :: nthK L 274 :: nthK L 275 :: nthK L 276 :: nthK L 277 :: nthK L 278 :: []) : BoT b0 wb av hv ov ev t v20 fb { tmps := L.toArray, defers := [] } := ⟨fun k => nthK L k, by rw [← h]⟩
/-- Between two turns. -/
def BoO (b0 wb K : Nat) (hl : Nat → List Int) (W1 : World) (a' : Act) (wr : World) : Prop := ∃ (t : Nat) (av : Value) (qs : List SlV) (hv : Value) (hs : List SlV) (nh : Nat) (ov : Value) (os : List SlV) (ev : Value) (bs : List SlV), BoF b0 wb av hv ov ev t a' ∧ t ≤ 4 ∧ (0 < t → nh = K) ∧ (t = 0 → nh = 0) ∧ qs.length ≤ 400 * t ∧ os.length = 3 * t ∧ bs.length = t ∧ (0 < t → 0 < qs.length) ∧ Hid (BkS W1 wr av qs [] hv hs ((List.range nh).map hl) ov os [] ev bs [])
/-- Within a turn. -/
def BoN (b0 wb K t tb nn m : Nat) (hl : Nat → List Int) (fl : Bool) (g1 g2 g3 : Nat) (ay : Option Addr) (x2 x3 x4 : List SlV) (W1 : World) (ov ev : Value) (os bs : List SlV) (N0 : Nat) (a' : Act) (wr : World) : Prop := ∃ (i : Nat) (av : Value) (qs : List SlV) (hv : Value) (hs : List SlV) (nh : Nat), BoI b0 wb av hv ov ev t tb i a' ∧ i ≤ K ∧ (0 < t → nh = K) ∧ (t = 0 → nh = i) ∧ qs.length = N0 + i ∧ Hid (BkS W1 wr av qs (x2 ++ (x3 ++ x4)) hv hs ((List.range nh).map hl) ov os [(some ⟨g2, 0, none⟩, nn, nn), (some ⟨g3, 0, none⟩, nn, nn), (ay, m, m)] ev bs [(some ⟨g1, 0, none⟩, nn, nn)]) ∧ Hid (LO slE wr 0 (.slice (some ⟨g2, 0, none⟩) nn nn) x2 ∧ LO slE wr 0 (.slice (some ⟨g3, 0, none⟩) nn nn) x3 ∧ LO slE wr 0 (.slice ay m m) x4) ∧ Hid (TdBox wr tb (.slice (some ⟨g1, 0, none⟩) nn nn) (.slice (some ⟨g2, 0, none⟩) nn nn) (.slice (some ⟨g3, 0, none⟩) nn nn) (.slice ay m m) fl)
set_option linter.unusedSimpArgs false in
set_option maxRecDepth 100000 in
set_option maxHeartbeats 64000000 in
/-- The law SetsBook. -/
theorem lawBook7 (k : Nat) (lex : List (LexM k)) (names : List ByteArray) (ps : List ProdM) (al an ap : Option Addr) (nl cl nn cn np cp : Nat) (st : Int) (w : World) (hlex : lex.length = nl) (hnames : names.length = nn) (hps : ps.length = np) (hsz : nl * 88 ≤ 140737488351232 ∧ nn * 16 ≤ 140737488351232 ∧ np * 32 ≤ 140737488351232 ∧ ∀ p ∈ ps, p.2.length * 16 ≤ 140737488351232) (hl : LexAt w k (.slice al nl cl) lex) (hn : NamesAt w (.slice an nn cn) names) (hp : ProdsAt w (.slice ap np cp) ps) (hT : TabAt w) :
    Calls Tryd.prog 3 #[.agg #[.slice al nl cl, .slice an nn cn, .int .i64 st, .slice ap np cp]] w fun e w' => e = .returned (.bool true) ∧ Kept w w' := by
  have HK0 : Hid (Kept w (w.alloc (.cells #[.slice al nl cl, .slice an nn cn, .int .i64 st, .slice ap np cp] 26))) := (Kept.refl w).alloc _ _
  have HB0 := hide1 (SBox.new w (.slice al nl cl) (.slice an nn cn) (.int .i64 st) (.slice ap np cp))
  have HLS : Hid (∀ l ∈ lex, l.1.size ≤ 200000000000000) := lex_sizes hl
  have HROW : Hid (∀ p ∈ ps, p.2.length ≤ 8796093022207) := fun p hp => by have := hsz.2.2.2 p hp; omega
  have hz1 : nl ≤ 1600000000000 := by omega
  have hz2 : nn ≤ 8796093022207 := by omega
  have hz3 : np ≤ 4398046511103 := by omega
  have HT := hide1 hT
  have HL := hide1 hl
  have HN := hide1 hn
  have HP := hide1 hp
  have HLEN := hide1 hlex
  have HNAM := hide1 hnames
  have HPS := hide1 hps
  have HZZ := hide1 hsz
  clear hlex hnames hps hsz hl hn hp hT
  go_enter Tryd.func3, Tryd.ntmps3
  go_upto_region 1 with fail
  obtain ⟨W0, hW0⟩ : ∃ W0, w.alloc (.cells #[.slice al nl cl, .slice an nn cn, .int .i64 st, .slice ap np cp] 26) = W0 := ⟨_, rfl⟩
  rw [hW0] at HK0 HB0 ⊢
  clear hW0
  obtain ⟨b0, hb0⟩ : ∃ b0, w.heap.size = b0 := ⟨_, rfl⟩
  rw [hb0] at HB0 ⊢
  clear hb0
  obtain ⟨s0, s1, s2, s3⟩ := HB0.out.facts
  go_wp2_with fail
  refine (toldS_is k lex ps al an ap nl cl nn cn np cp st W0 (by omega) HLEN.out HPS.out (HL.out.keep HK0.out) (HP.out.keep HK0.out) (HT.out.keep HK0.out)).mono ?_
  rintro e w1 ⟨x, hq, hk1, hor⟩
  have HQ := hide1 hq
  have HK1 := hide1 hk1
  have HB1 := hide1 (HB0.out.keep hk1)
  have HKw1 := hide1 (gtrans HK0.out hk1)
  clear s0 s1 s2 s3 hq hk1
  rcases hor with ⟨hx0, rfl⟩ | ⟨hx0, g1, g2, g3, ay, m, fl, es, l2, l3, l4, H1, H2, H3, rfl, hu, hm4, hH, o1, o2, o3, o4⟩
  · go_upto_region 2 with fail
    have HA1 : Hid (Kept w1 (w1.alloc (.cells #[.slice none 0 0, .slice none 0 0, .slice none 0 0, .slice none 0 0, .bool false] 30))) := (Kept.refl w1).alloc _ _
    obtain ⟨W2, hW2⟩ : ∃ W2, w1.alloc (.cells #[.slice none 0 0, .slice none 0 0, .slice none 0 0, .slice none 0 0, .bool false] 30) = W2 := ⟨_, rfl⟩
    rw [hW2] at HA1 ⊢
    clear hW2
    have HKw2 := hide1 (gtrans HKw1.out HA1.out)
    go_wp2_with (go_at_call 6; refine (head_is7 _ (HT.out.keep HKw2.out)).mono ?_; rintro e w9 ⟨rfl, hk9⟩; have HK9 := hide1 hk9; clear hk9)
    go_ret
    exact ⟨rfl, gtrans HKw2.out HK9.out⟩
  · have HQ0 : Hid (CheckQ lex ps nn nl st (0, 0)) := by
      have h := HQ.out
      rw [checkQ_zero2 h hx0] at h
      exact h
    have HCI := hide1 (check_allB HLEN.out HQ0.out)
    have HU := hide1 hu
    have HUL := hide1 hu.lens
    have HM4 := hide1 hm4
    have hn128 : nn ≤ 128 := HCI.out.1.2.1
    have gnn : (nn : Int) ≤ 128 := by omega
    have hn0 : 0 < nn := by have := HCI.out.1.2.2; omega
    have hp0 : 0 < np := by have := HCI.out.2.2.2; have := HPS.out; omega
    have hmn : m ≤ 128 := by rcases HUL.out.2.2.2.1 with h | h <;> (have := HM4.out; omega)
    have HBD : Hid (es.length ≤ 4096 ∧ (l2.length ≤ 4096 ∧ l3.length ≤ 4096 ∧ l4.length ≤ 4096) ∧ (∀ l ∈ l2, l.length ≤ 4096) ∧ (∀ l ∈ l3, l.length ≤ 4096) ∧ ∀ l ∈ l4, l.length ≤ 4096) := ⟨by have := HUL.out.1; omega, ⟨by have := HUL.out.2.1; omega, by have := HUL.out.2.2.1; omega, by have := HM4.out; omega⟩, fun l h => by have := HUL.out.2.2.2.2.1 l h; omega, fun l h => by have := HUL.out.2.2.2.2.2.1 l h; omega, HUL.out.2.2.2.2.2.2⟩
    have HR1 : Hid (BoolsR w1 (.slice (some ⟨g1, 0, none⟩) nn nn) es ∧ RowsR w1 (.slice (some ⟨g2, 0, none⟩) nn nn) l2 ∧ RowsR w1 (.slice (some ⟨g3, 0, none⟩) nn nn) l3 ∧ RowsR w1 (.slice ay m m) l4) := by
      obtain ⟨x2, q2⟩ := o2
      obtain ⟨x3, q3⟩ := o3
      obtain ⟨x4, q4⟩ := o4
      exact TdZ.read (vb := (some ⟨g1, 0, none⟩, nn, nn)) (v2 := (some ⟨g2, 0, none⟩, nn, nn)) (v3 := (some ⟨g3, 0, none⟩, nn, nn)) (v4 := (ay, m, m)) ⟨H1, H2, H3, hH, o1, q2, q3, q4⟩ HBD.out.1 HBD.out.2.1 HBD.out.2.2.1 HBD.out.2.2.2.1 HBD.out.2.2.2.2
    clear hu hm4 hH o1 o2 o3 o4 hx0
    go_upto_region 2 with fail
    have HF1 := hide1 (TdBox.new w1 (.slice (some ⟨g1, 0, none⟩) nn nn) (.slice (some ⟨g2, 0, none⟩) nn nn) (.slice (some ⟨g3, 0, none⟩) nn nn) (.slice ay m m) fl)
    have HA1 : Hid (Kept w1 (w1.alloc (.cells #[.slice (some ⟨g1, 0, none⟩) nn nn, .slice (some ⟨g2, 0, none⟩) nn nn, .slice (some ⟨g3, 0, none⟩) nn nn, .slice ay m m, .bool fl] 30))) := (Kept.refl w1).alloc _ _
    obtain ⟨W2, hW2⟩ : ∃ W2, w1.alloc (.cells #[.slice (some ⟨g1, 0, none⟩) nn nn, .slice (some ⟨g2, 0, none⟩) nn nn, .slice (some ⟨g3, 0, none⟩) nn nn, .slice ay m m, .bool fl] 30) = W2 := ⟨_, rfl⟩
    rw [hW2] at HF1 HA1 ⊢
    clear hW2
    obtain ⟨fb, hfb⟩ : ∃ fb, w1.heap.size = fb := ⟨_, rfl⟩
    rw [hfb] at HF1 ⊢
    clear hfb
    have HKw2 := hide1 (gtrans HKw1.out HA1.out)
    go_upto_region 4 with (go_at_call 6; refine (head_is7 _ (HT.out.keep HKw2.out)).mono ?_; rintro e w3 ⟨rfl, hk3⟩; have HK3 := hide1 hk3; clear hk3)
    have HKw3 := hide1 (gtrans HKw2.out HK3.out)
    have HK13 := hide1 (gtrans HA1.out HK3.out)
    obtain ⟨⟨f0, f1, f2, f3, f4⟩, -⟩ := (HF1.out.keep HK3.out).cells
    go_upto_region 5 with (go_at_call 7; refine (copied_is (some ⟨g1, 0, none⟩) (some ⟨g2, 0, none⟩) (some ⟨g3, 0, none⟩) ay nn nn nn m nn nn nn m fl es l2 l3 l4 w3 HUL.out.1 HUL.out.2.1 HUL.out.2.2.1 HM4.out (by omega) (by omega) (by omega) (by omega) HBD.out.2.2.1 HBD.out.2.2.2.1 HBD.out.2.2.2.2 (HR1.out.1.keep HK13.out) (HR1.out.2.1.keep HK13.out) (HR1.out.2.2.1.keep HK13.out) (HR1.out.2.2.2.keep HK13.out)).mono ?_; rintro e w4 ⟨c1, c2, c3, c4, t1, t2, t3, t4, rfl, hc1, hc2, hc3, hc4, hk4⟩; have HC4 := hide1 (And.intro hc1 (And.intro hc2 (And.intro hc3 hc4))); have HK4 := hide1 hk4; clear hc1 hc2 hc3 hc4 hk4)
    clear f0 f1 f2 f3 f4
    obtain ⟨f0, hf0⟩ : ∃ f, l3[0]? = some f := ⟨_, List.getElem?_eq_getElem (by have := HUL.out.2.2.1; omega)⟩
    obtain ⟨c3g, c3o, uu, rfl, uu1, uu2⟩ := RowsR.at_ HC4.out.2.2.1 hf0
    clear uu1 uu2 uu hf0 f0
    have HWB0 := hide1 (TdBox.new w4 (.slice c1 nn t1) (.slice c2 nn t2) (.slice (some ⟨c3g, c3o, none⟩) nn t3) (.slice c4 m t4) fl)
    have HA4 : Hid (Kept w4 (w4.alloc (.cells #[.slice c1 nn t1, .slice c2 nn t2, .slice (some ⟨c3g, c3o, none⟩) nn t3, .slice c4 m t4, .bool fl] 30))) := (Kept.refl w4).alloc _ _
    obtain ⟨W1, hW1⟩ : ∃ W1, w4.alloc (.cells #[.slice c1 nn t1, .slice c2 nn t2, .slice (some ⟨c3g, c3o, none⟩) nn t3, .slice c4 m t4, .bool fl] 30) = W1 := ⟨_, rfl⟩
    rw [hW1] at HWB0 HA4 ⊢
    clear hW1
    obtain ⟨wb, hwb⟩ : ∃ wb, w4.heap.size = wb := ⟨_, rfl⟩
    rw [hwb] at HWB0 ⊢
    clear hwb
    have HWB := HWB0
    have HKW := hide1 (gtrans HKw3.out (gtrans HK4.out HA4.out))
    have HBB := hide1 (HB1.out.keep (gtrans HK13.out (gtrans HK4.out HA4.out)))
    have HWL : Hid (BoolsR W1 (.slice c1 nn t1) es ∧ RowsR W1 (.slice c2 nn t2) l2 ∧ RowsR W1 (.slice (some ⟨c3g, c3o, none⟩) nn t3) l3 ∧ RowsR W1 (.slice c4 m t4) l4) := ⟨HC4.out.1.keep HA4.out, HC4.out.2.1.keep HA4.out, HC4.out.2.2.1.keep HA4.out, HC4.out.2.2.2.keep HA4.out⟩
    clear HWB0 HA4 HC4 HK4 HKw3 HK13 HF1 HA1 HKw2 HK3 HR1 HK1 HB1 HKw1 HQ HB0 HK0
    obtain ⟨K, hK⟩ : ∃ K, min np 8 = K := ⟨_, rfl⟩
    have hK1 : K ≤ np := by omega
    have hK2 : K ≤ 8 := by omega
    have hK3 : 0 < K := by omega
    have hK4 : K = np ∨ K = 8 := by omega
    clear hK
    obtain ⟨p0, hp0'⟩ : ∃ p, ps[0]? = some p := ⟨_, List.getElem?_eq_getElem (by have := HPS.out; omega)⟩
    obtain ⟨cb, o2, -, eap, -⟩ := SliceOf.el HP.out hp0'
    subst eap
    obtain ⟨_, _, eqp, hcp, -⟩ := SliceOf.len HP.out
    simp only [Value.slice.injEq] at eqp
    obtain ⟨-, -, rfl⟩ := eqp
    rw [HPS.out] at hcp
    have gcp : (np : Int) ≤ (cp : Int) := by omega
    clear hp0' p0 hcp
    obtain ⟨hl, hhl⟩ := heads_fun (P := fun i l => ∃ p f, ps[i]? = some p ∧ l3[p.1.toNat]? = some f ∧ HdA lex ps nn nl st p.2 f (0, 0) l) [] (fun i x y ⟨p, f, h1, h2, h3⟩ ⟨p', f', h4, h5, h6⟩ => by rw [h1] at h4; injection h4 with h4; subst h4; rw [h2] at h5; injection h5 with h5; subst h5; exact (h3.one h6).2)
    have HHL := hide1 hhl
    clear hhl
    have HPC : Hid (∀ w', Kept W1 w' → ∀ (i : Nat) (p : ProdM), ps[i]? = some p → ∃ (ra : Option Addr) (rc : Nat), w'.cell? ⟨cb, o2 + i * 2, none⟩ = some (.int .i64 p.1) ∧ w'.cell? ⟨cb, o2 + i * 2 + 1, none⟩ = some (.slice ra p.2.length rc) ∧ RightAt w' (.slice ra p.2.length rc) p.2 ∧ p.2.length ≤ rc) := fun w' hk' i p hi => by
      obtain ⟨cb', o2', cs, ea, hcb, hlen, hcell, v', hcs, hrt⟩ := SliceOf.el (HP.out.keep (gtrans HKW.out hk')) hi
      injection ea with ea
      injection ea with ea1 ea2
      subst ea1 ea2 hcs
      obtain ⟨ra, rc, rfl, hrc, _⟩ := SliceOf.len hrt
      exact ⟨ra, rc, hcell 0 _ rfl, hcell 1 _ rfl, hrt, hrc⟩
    have HFC : Hid (∀ w', Kept W1 w' → ∀ (pl : Nat) (f : List Int), l3[pl]? = some f → ∃ (fa : Option Addr) (fc : Nat), w'.cell? ⟨c3g, c3o + pl, none⟩ = some (.slice fa f.length fc) ∧ IntsR w' (.slice fa f.length fc) f) := fun w' hk' pl f hf => by
      obtain ⟨g, o, u, ea, k1, hu⟩ := RowsR.at_ (HWL.out.2.2.1.keep hk') hf
      injection ea with ea
      injection ea with ea1 ea2
      subst ea1 ea2
      obtain ⟨fa, fc, rfl, _⟩ := SliceOf.len hu
      exact ⟨fa, fc, k1, hu⟩
    have HHD : Hid (∀ (w' : World) (i : Nat) (p : ProdM) (f : List Int) (ra fa : Option Addr) (nr rc fn fc : Nat), Kept W1 w' → ps[i]? = some p → l3[p.1.toNat]? = some f → p.2.length = nr → f.length = fn → RightAt w' (.slice ra nr rc) p.2 → IntsR w' (.slice fa fn fc) f → Calls Tryd.prog 9 #[.agg #[.slice al nl cl, .slice an nn cn, .int .i64 st, .slice (some ⟨cb, o2, none⟩) np cp], .slice ra nr rc, .slice fa fn fc] w' fun e w2 => ∃ v, e = .returned (.tuple #[v, .agg #[.int .i64 0, .int .i64 0, .string ⟨#[]⟩]]) ∧ IntsO w2 w'.heap.size v (hl i) ∧ (hl i).length ≤ 66 ∧ Kept w' w2) := fun w' i p f ra fa nr rc fn fc hk' hi hf h1 h2 h3 h4 =>
      (headsB_is k lex ps al an _ ra fa nl cl nn cn np cp nr rc fn fc st p.2 f w' (by omega) HLEN.out HPS.out (HL.out.keep (gtrans HKW.out hk')) (HP.out.keep (gtrans HKW.out hk')) (HT.out.keep (gtrans HKW.out hk')) HQ0.out (row_zeroB (HCI.out.2.1 p (List.mem_of_getElem? hi)) (HCI.out.2.2.1 p (List.mem_of_getElem? hi)).2) (follow_okB HLEN.out (fun p hp => (HCI.out.2.2.1 p hp).2) HU.out hf) h1 h2 h3 h4).mono fun e w2 ⟨v, l, q1, q2, q3, q4⟩ => by
        have e1 := HHL.out i l ⟨p, f, hi, hf, q2⟩
        subst e1
        exact ⟨v, q1, q3, q2.len.1, q4⟩
    have HTD : Hid (∀ w', Kept W1 w' → Calls Tryd.prog 5 #[.agg #[.slice al nl cl, .slice an nn cn, .int .i64 st, .slice (some ⟨cb, o2, none⟩) np cp]] w' fun e w2 => ∃ (g1 g2 g3 : Nat) (ay : Option Addr) (x2 x3 x4 : List SlV), e = .returned (.tuple #[.agg #[.slice (some ⟨g1, 0, none⟩) nn nn, .slice (some ⟨g2, 0, none⟩) nn nn, .slice (some ⟨g3, 0, none⟩) nn nn, .slice ay m m, .bool fl], .bool true, .bool true]) ∧ TdZ w'.heap.size es l2 l3 l4 (some ⟨g1, 0, none⟩, nn, nn) (some ⟨g2, 0, none⟩, nn, nn) (some ⟨g3, 0, none⟩, nn, nn) (ay, m, m) x2 x3 x4 w2 ∧ Kept w' w2) := fun w' hk' =>
      toldOk_is k lex ps al an _ nl cl nn cn np cp st es l2 l3 l4 fl m w' (by omega) HLEN.out HPS.out (HL.out.keep (gtrans HKW.out hk')) (HP.out.keep (gtrans HKW.out hk')) (HT.out.keep (gtrans HKW.out hk')) HQ0.out HU.out HM4.out
    have HST : Hid (∀ (w' : World) (T g1 g2 g3 : Nat) (ay : Option Addr) (x2 x3 x4 : List SlV), Kept W1 w' → TdZ T es l2 l3 l4 (some ⟨g1, 0, none⟩, nn, nn) (some ⟨g2, 0, none⟩, nn, nn) (some ⟨g3, 0, none⟩, nn, nn) (ay, m, m) x2 x3 x4 w' → Calls Tryd.prog 8 #[.agg #[.slice (some ⟨g1, 0, none⟩) nn nn, .slice (some ⟨g2, 0, none⟩) nn nn, .slice (some ⟨g3, 0, none⟩) nn nn, .slice ay m m, .bool fl], .agg #[.slice c1 nn t1, .slice c2 nn t2, .slice (some ⟨c3g, c3o, none⟩) nn t3, .slice c4 m t4, .bool fl]] w' fun e w2 => e = .returned (.bool true) ∧ Kept w' w2) := fun w' T g1 g2 g3 ay x2 x3 x4 hk' hz => by
      obtain ⟨q1, q2, q3, q4⟩ := hz.read HBD.out.1 HBD.out.2.1 HBD.out.2.2.1 HBD.out.2.2.2.1 HBD.out.2.2.2.2
      exact sameToldG_is (some ⟨g1, 0, none⟩) (some ⟨g2, 0, none⟩) (some ⟨g3, 0, none⟩) ay c1 c2 (some ⟨c3g, c3o, none⟩) c4 nn nn nn m nn nn nn m nn nn nn m t1 t2 t3 t4 fl es l2 l3 l4 w' HUL.out.1 HUL.out.2.1 HUL.out.2.2.1 HM4.out HUL.out.1 HUL.out.2.1 HUL.out.2.2.1 HM4.out q1 q2 q3 q4 (HWL.out.1.keep hk') (HWL.out.2.1.keep hk') (HWL.out.2.2.1.keep hk') (HWL.out.2.2.2.keep hk')
    go_wp2_with fail
    refine wp_loop (BoO b0 wb K hl W1) (fun a' _ => 4 - (intOf (a'.tmps.getD 11 undef)).toNat) ?_ ?_
    · exact ⟨0, _, [], _, [], 0, _, [], _, [], boF_of _ (by kernel_rfl), by omega, fun h => by omega, fun _ => rfl, by simp, rfl, rfl, fun h => by omega, BkS.start⟩
    · rintro a' wr ⟨t, av, qs, hv, hs, nh, ov, os, ev, bs, ⟨T, rfl⟩, ht4, hnh, hnh0, hqs, hos, hbs, hq0, HBK⟩
      by_cases hlt : (t : Int) < 4
      · have HKR : Hid (Kept W1 wr) := HBK.out.kept
        obtain ⟨s0, s1, s2, s3⟩ := (HBB.out.keep HKR.out).facts
        go_upto_region 13 with (go_at_call 5; refine (HTD.out wr HKR.out).mono ?_; rintro e w2 ⟨g1, g2, g3, ay, x2, x3, x4, rfl, hz, hk2⟩; have HZ2 := hide1 hz; have HK2 := hide1 hk2; clear hz hk2)
        clear s0 s1 s2 s3
        have HTB0 := hide1 (TdBox.new w2 (.slice (some ⟨g1, 0, none⟩) nn nn) (.slice (some ⟨g2, 0, none⟩) nn nn) (.slice (some ⟨g3, 0, none⟩) nn nn) (.slice ay m m) fl)
        have HA2 : Hid (Kept w2 (w2.alloc (.cells #[.slice (some ⟨g1, 0, none⟩) nn nn, .slice (some ⟨g2, 0, none⟩) nn nn, .slice (some ⟨g3, 0, none⟩) nn nn, .slice ay m m, .bool fl] 30))) := (Kept.refl w2).alloc _ _
        obtain ⟨W2, hW2⟩ : ∃ W2, w2.alloc (.cells #[.slice (some ⟨g1, 0, none⟩) nn nn, .slice (some ⟨g2, 0, none⟩) nn nn, .slice (some ⟨g3, 0, none⟩) nn nn, .slice ay m m, .bool fl] 30) = W2 := ⟨_, rfl⟩
        rw [hW2] at HTB0 HA2 ⊢
        clear hW2
        obtain ⟨tb, htb⟩ : ∃ tb, w2.heap.size = tb := ⟨_, rfl⟩
        rw [htb] at HTB0 ⊢
        clear htb
        have HKR2 := hide1 (gtrans HK2.out HA2.out)
        have HKW2 := hide1 (gtrans HKR.out HKR2.out)
        have HZ3 := hide1 (HZ2.out.keep HA2.out)
        obtain ⟨⟨f0, f1, f2, f3, f4⟩, -⟩ := HTB0.out.cells
        obtain ⟨⟨e0, e1, e2, e3, e4⟩, -⟩ := (HWB.out.keep HKW2.out).cells
        go_upto_region 15 with (go_at_call 8; refine (HST.out W2 _ g1 g2 g3 ay x2 x3 x4 HKW2.out HZ3.out).mono ?_; rintro e w3 ⟨rfl, hk3⟩; have HK3 := hide1 hk3; clear hk3)
        clear f0 f1 f2 f3 f4 e0 e1 e2 e3 e4
        have HBN0 := hide1 ((HBK.out.told2 HKR2.out HZ3.out HBD.out.1 HBD.out.2.1 HBD.out.2.2.1 HBD.out.2.2.2.1 HBD.out.2.2.2.2).keep HK3.out)
        have HXL := hide1 (tdz_hd HZ3.out).2
        have HX3 : Hid (LO slE w3 0 (.slice (some ⟨g2, 0, none⟩) nn nn) x2 ∧ LO slE w3 0 (.slice (some ⟨g3, 0, none⟩) nn nn) x3 ∧ LO slE w3 0 (.slice ay m m) x4) := ⟨(tdz_hd HZ3.out).1.1.keep HK3.out, (tdz_hd HZ3.out).1.2.1.keep HK3.out, (tdz_hd HZ3.out).1.2.2.keep HK3.out⟩
        have HTB3 := hide1 (HTB0.out.keep HK3.out)
        clear HTB0 HA2 HZ2 HZ3 HKW2 HKR2 HK2 HK3 HBK
        go_wp2_with fail
        refine wp_loop (BoN b0 wb K t tb nn m hl fl g1 g2 g3 ay x2 x3 x4 W1 ov ev os bs qs.length) (fun a' _ => 8 - (intOf (a'.tmps.getD 15 undef)).toNat) ?_ ?_
        · exact ⟨0, av, qs, hv, hs, nh, boI_of _ (by kernel_rfl), by omega, hnh, hnh0, rfl, HBN0, HX3, HTB3⟩
        · obtain ⟨N0, hN0⟩ : ∃ N0, qs.length = N0 := ⟨_, rfl⟩
          rw [hN0] at hqs ⊢
          clear HBN0 HX3 HTB3 hN0 hnh hnh0 hq0
          rintro a' wq ⟨i, av, qs, hv, hs, nh, ⟨T2, rfl⟩, hi, hnh, hnh0, hnq, HBN, HX, HTB⟩
          have HKQ : Hid (Kept W1 wq) := HBN.out.kept
          obtain ⟨s0, s1, s2, s3⟩ := (HBB.out.keep HKQ.out).facts
          by_cases hgo : i < K
          · obtain ⟨p, hp⟩ : ∃ p, ps[i]? = some p := ⟨_, List.getElem?_eq_getElem (by have := HPS.out; omega)⟩
            obtain ⟨ra, rc, k0, k1, hrt, hrc⟩ := HPC.out wq HKQ.out i p hp
            obtain ⟨pl, hpl⟩ : ∃ pl : Nat, (pl : Int) = p.1 := ⟨p.1.toNat, Int.toNat_of_nonneg (HCI.out.2.2.1 p (List.mem_of_getElem? hp)).1.1⟩
            have hpln : pl < nn := by have := (HCI.out.2.2.1 p (List.mem_of_getElem? hp)).1.2; omega
            have gpl : (pl : Int) < (nn : Int) := by omega
            have hplt : p.1.toNat = pl := by omega
            obtain ⟨f, hf⟩ : ∃ f, l3[pl]? = some f := ⟨_, List.getElem?_eq_getElem (by have := HUL.out.2.2.1; omega)⟩
            obtain ⟨nr, hnr⟩ : ∃ nr, p.2.length = nr := ⟨_, rfl⟩
            rw [hnr] at k1 hrt hrc
            rw [← hpl] at k0
            have HPP := hide1 hp
            have HFF : Hid (l3[p.1.toNat]? = some f) := by show _ = _; rw [hplt]; exact hf
            have HF0 := hide1 hf
            have HNR := hide1 hnr
            have HRT0 := hide1 hrt
            have HPB0 := hide1 (PBox.new wq (.int .i64 (pl : Int)) (.slice ra nr rc))
            have HKP0 : Hid (Kept wq (wq.alloc (.cells #[.int .i64 (pl : Int), .slice ra nr rc] 40))) := (Kept.refl wq).alloc _ _
            clear hp hf hnr hrt hpl hplt
            have hiI : (i : Int) < (np : Int) := by omega
            have hi8 : (i : Int) < 8 := by omega
            have hic : (i : Int) < (cp : Int) := by omega
            go_upto_region 19 with fail
            clear k0 k1 s0 s1 s2 s3
            obtain ⟨WP, hWP⟩ : ∃ WP, wq.alloc (.cells #[.int .i64 (pl : Int), .slice ra nr rc] 40) = WP := ⟨_, rfl⟩
            rw [hWP] at HPB0 HKP0 ⊢
            clear hWP
            obtain ⟨pb, hpb⟩ : ∃ pb, wq.heap.size = pb := ⟨_, rfl⟩
            rw [hpb] at HPB0 ⊢
            clear hpb
            have HPB := HPB0
            have HKP := HKP0
            clear HPB0 HKP0
            have HKWP := hide1 (gtrans HKQ.out HKP.out)
            have HRT := hide1 (HRT0.out.keep HKP.out)
            obtain ⟨fa, fc, hfq, hfr⟩ := HFC.out WP HKWP.out pl f HF0.out
            obtain ⟨fn, hfn⟩ : ∃ fn, f.length = fn := ⟨_, rfl⟩
            rw [hfn] at hfq hfr
            have HFQ := hide1 hfq
            have HFR := hide1 hfr
            have HFN := hide1 hfn
            clear hfq hfr hfn HRT0 HF0
            refine Code.wp_mono (Q := fun e a' w' => e = .normal ∧ ∃ (v17 : Value) (fb : Nat), BoJ b0 wb av hv ov ev t tb i v17 fb a' ∧ Hid (IntsO w' WP.heap.size v17 (hl i) ∧ FlBox w' fb 0 0 ∧ (hl i).length ≤ 66 ∧ Kept WP w')) ?_ ?_
            rotate_left
            · refine wp_region_held_drew (S := fun X => Kept WP X) (by kernel_rfl) (drew_kept _) (fun hHeld => ?_)
              refine wpAnyH_take (i := 0) (v := .agg #[.slice al nl cl, .slice an nn cn, .int .i64 st, .slice (some ⟨cb, o2, none⟩) np cp]) rfl (by kernel_rfl) (by kernel_rfl) (by kernel_rfl) (fun _ _ _ h => nomatch h.1) (Or.inl ⟨by rfl, fun w' hSw => ?_⟩) (by with_reducible assumption) ?_
              · obtain ⟨s0, s1, s2, s3⟩ := (HBB.out.keep (gtrans HKWP.out hSw)).facts
                clear hSw
                go_simp
              try simp only [Act.put, List.getElem_toArray, List.getElem_cons_succ, List.getElem_cons_zero, List.setIfInBounds_toArray, List.set_cons_zero, List.set_cons_succ]
              refine wpAnyH_take (i := 1) (v := .pointer (some ⟨pb, 1, none⟩)) rfl (by kernel_rfl) (by kernel_rfl) (by kernel_rfl) (fun _ _ _ h => nomatch h.1) (Or.inl ⟨by rfl, fun w' hSw => ?_⟩) (by with_reducible assumption) ?_
              · skip
                clear hSw
                go_simp
              try simp only [Act.put, List.getElem_toArray, List.getElem_cons_succ, List.getElem_cons_zero, List.setIfInBounds_toArray, List.set_cons_zero, List.set_cons_succ]
              refine wpAnyH_take (i := 2) (v := .slice ra nr rc) rfl (by kernel_rfl) (by kernel_rfl) (by kernel_rfl) (fun _ _ _ h => nomatch h.1) (Or.inl ⟨by rfl, fun w' hSw => ?_⟩) (by with_reducible assumption) ?_
              · have q := (HPB.out.keep hSw).cells.2
                clear hSw
                go_simp
              try simp only [Act.put, List.getElem_toArray, List.getElem_cons_succ, List.getElem_cons_zero, List.setIfInBounds_toArray, List.set_cons_zero, List.set_cons_succ]
              refine wpAnyH_take (i := 3) (v := .pointer (some ⟨wb, 2, none⟩)) rfl (by kernel_rfl) (by kernel_rfl) (by kernel_rfl) (fun _ _ _ h => nomatch h.1) (Or.inl ⟨by rfl, fun w' hSw => ?_⟩) (by with_reducible assumption) ?_
              · skip
                clear hSw
                go_simp
              try simp only [Act.put, List.getElem_toArray, List.getElem_cons_succ, List.getElem_cons_zero, List.setIfInBounds_toArray, List.set_cons_zero, List.set_cons_succ]
              refine wpAnyH_take (i := 4) (v := .slice (some ⟨c3g, c3o, none⟩) nn t3) rfl (by kernel_rfl) (by kernel_rfl) (by kernel_rfl) (fun _ _ _ h => nomatch h.1) (Or.inl ⟨by rfl, fun w' hSw => ?_⟩) (by with_reducible assumption) ?_
              · obtain ⟨⟨e0, e1, e2, e3, e4⟩, -⟩ := (HWB.out.keep (gtrans HKWP.out hSw)).cells
                clear hSw
                go_simp
              try simp only [Act.put, List.getElem_toArray, List.getElem_cons_succ, List.getElem_cons_zero, List.setIfInBounds_toArray, List.set_cons_zero, List.set_cons_succ]
              refine wpAnyH_take (i := 5) (v := .pointer (some ⟨pb, 0, none⟩)) rfl (by kernel_rfl) (by kernel_rfl) (by kernel_rfl) (fun _ _ _ h => nomatch h.1) (Or.inl ⟨by rfl, fun w' hSw => ?_⟩) (by with_reducible assumption) ?_
              · skip
                clear hSw
                go_simp
              try simp only [Act.put, List.getElem_toArray, List.getElem_cons_succ, List.getElem_cons_zero, List.setIfInBounds_toArray, List.set_cons_zero, List.set_cons_succ]
              refine wpAnyH_take (i := 6) (v := .int .i64 (pl : Int)) rfl (by kernel_rfl) (by kernel_rfl) (by kernel_rfl) (fun _ _ _ h => nomatch h.1) (Or.inl ⟨by rfl, fun w' hSw => ?_⟩) (by with_reducible assumption) ?_
              · have q := (HPB.out.keep hSw).cells.1
                clear hSw
                go_simp
              try simp only [Act.put, List.getElem_toArray, List.getElem_cons_succ, List.getElem_cons_zero, List.setIfInBounds_toArray, List.set_cons_zero, List.set_cons_succ]
              refine wpAnyH_take (i := 7) (v := .pointer (some ⟨c3g, c3o + pl, none⟩)) rfl (by kernel_rfl) (by kernel_rfl) (by kernel_rfl) (fun _ _ _ h => nomatch h.1) (Or.inl ⟨by rfl, fun w' hSw => ?_⟩) (by with_reducible assumption) ?_
              · skip
                clear hSw
                go_simp
              try simp only [Act.put, List.getElem_toArray, List.getElem_cons_succ, List.getElem_cons_zero, List.setIfInBounds_toArray, List.set_cons_zero, List.set_cons_succ]
              refine wpAnyH_take (i := 8) (v := .slice fa fn fc) rfl (by kernel_rfl) (by kernel_rfl) (by kernel_rfl) (fun _ _ _ h => nomatch h.1) (Or.inl ⟨by rfl, fun w' hSw => ?_⟩) (by with_reducible assumption) ?_
              · have q := grown_cell hSw HFQ.out
                clear hSw
                go_simp
              try simp only [Act.put, List.getElem_toArray, List.getElem_cons_succ, List.getElem_cons_zero, List.setIfInBounds_toArray, List.set_cons_zero, List.set_cons_succ]
              refine wpAnyH_ready (rs := [9, 13]) (by kernel_rfl) (by simp) ?_
              refine AllReadyH.cons (i := 9) rfl (fun K hK => ?_) (AllReadyH.cons (i := 13) rfl (fun K hK => ?_) AllReadyH.nil)
              · go_simp
                go_wp2_with (go_at_call 9; refine (HHD.out _ i p f ra fa nr rc fn fc (gtrans HKWP.out (drew_kept WP)) HPP.out HFF.out HNR.out HFN.out (HRT.out.keep (drew_kept WP)) (HFR.out.keep (drew_kept WP))).mono ?_; rintro e w6 ⟨v17, rfl, h1, h2, h3⟩; have HO := hide1 h1; have HO66 := hide1 h2; have HKc := hide1 h3; have HK6 : Hid (Kept WP w6) := gtrans (drew_kept WP) h3; clear h1 h2 h3)
                refine hK.out _ _ HK6.out (fun hHeld2 => ?_)
                clear hK K hHeld
                have hHeld := hHeld2
                clear hHeld2
                try simp only [Act.put, List.getElem_toArray, List.getElem_cons_succ, List.getElem_cons_zero, List.setIfInBounds_toArray, List.set_cons_zero, List.set_cons_succ]
                refine wpAnyH_take (i := 10) (v := .tuple #[v17, .agg #[.int .i64 0, .int .i64 0, .string ⟨#[]⟩]]) rfl (by kernel_rfl) (by kernel_rfl) (by kernel_rfl) (fun _ _ _ h => nomatch h.1) (Or.inl ⟨by rfl, fun w' hSw => ?_⟩) (by with_reducible assumption) ?_
                · skip
                  clear hSw
                  go_simp
                try simp only [Act.put, List.getElem_toArray, List.getElem_cons_succ, List.getElem_cons_zero, List.setIfInBounds_toArray, List.set_cons_zero, List.set_cons_succ]
                refine wpAnyH_take (i := 11) (v := v17) rfl (by kernel_rfl) (by kernel_rfl) (by kernel_rfl) (fun _ _ _ h => nomatch h.1) (Or.inl ⟨by rfl, fun w' hSw => ?_⟩) (by with_reducible assumption) ?_
                · skip
                  clear hSw
                  go_simp
                try simp only [Act.put, List.getElem_toArray, List.getElem_cons_succ, List.getElem_cons_zero, List.setIfInBounds_toArray, List.set_cons_zero, List.set_cons_succ]
                refine wpAnyH_take (i := 12) (v := .agg #[.int .i64 0, .int .i64 0, .string ⟨#[]⟩]) rfl (by kernel_rfl) (by kernel_rfl) (by kernel_rfl) (fun _ _ _ h => nomatch h.1) (Or.inl ⟨by rfl, fun w' hSw => ?_⟩) (by with_reducible assumption) ?_
                · skip
                  clear hSw
                  go_simp
                try simp only [Act.put, List.getElem_toArray, List.getElem_cons_succ, List.getElem_cons_zero, List.setIfInBounds_toArray, List.set_cons_zero, List.set_cons_succ]
                refine wpAnyH_ready (rs := [13]) (by kernel_rfl) (by simp) ?_
                refine AllReadyH.cons (i := 13) rfl (fun K hK => ?_) AllReadyH.nil
                go_simp
                refine hK.out _ _ (gtrans HK6.out ((Kept.refl w6).alloc _ _)) (fun hHeld2 => ?_)
                clear hK K hHeld
                have hHeld := hHeld2
                clear hHeld2
                try simp only [Act.put, List.getElem_toArray, List.getElem_cons_succ, List.getElem_cons_zero, List.setIfInBounds_toArray, List.set_cons_zero, List.set_cons_succ]
                refine wpAnyH_take (i := 14) (v := v17) rfl (by kernel_rfl) (by kernel_rfl) (by kernel_rfl) (fun _ _ _ h => nomatch h.1) (Or.inl ⟨by rfl, fun w' hSw => ?_⟩) (by with_reducible assumption) ?_
                · skip
                  clear hSw
                  go_simp
                try simp only [Act.put, List.getElem_toArray, List.getElem_cons_succ, List.getElem_cons_zero, List.setIfInBounds_toArray, List.set_cons_zero, List.set_cons_succ]
                refine wpAnyH_ready (rs := [15]) (by kernel_rfl) (by simp) ?_
                refine AllReadyH.cons (i := 15) rfl (fun K hK => ?_) AllReadyH.nil
                go_simp
                have HKX : Hid (Kept w6 (w6.alloc (.cells #[.int .i64 0, .int .i64 0, .string ⟨#[]⟩] 44))) := (Kept.refl w6).alloc _ _
                refine hK.out _ _ (gtrans HK6.out HKX.out) (fun hHeld2 => ?_)
                clear hK K hHeld
                have hHeld := hHeld2
                clear hHeld2
                try simp only [Act.put, List.getElem_toArray, List.getElem_cons_succ, List.getElem_cons_zero, List.setIfInBounds_toArray, List.set_cons_zero, List.set_cons_succ]
                refine wpAnyH_done (by kernel_rfl) ?_ _
                exact ⟨rfl, v17, w6.heap.size, boJ_of _ (by kernel_rfl), intsO_low (HO.out.keep HKX.out) (Nat.le_refl _), (fl_new w6 0 0).1, HO66.out, gtrans HK6.out HKX.out⟩
              · go_simp
                have HKZ : Hid (Kept WP (WP.alloc (.cells #[.int .i64 0, .int .i64 0, .string ⟨#[]⟩] 44)).drew) := gtrans ((Kept.refl WP).alloc _ _) (drew_kept _)
                have HFZ : Hid (FlBox (WP.alloc (.cells #[.int .i64 0, .int .i64 0, .string ⟨#[]⟩] 44)).drew WP.heap.size 0 0) := (FlBox.new WP).keep (drew_kept _)
                refine hK.out _ _ HKZ.out (fun hHeld2 => ?_)
                clear hK K hHeld
                have hHeld := hHeld2
                clear hHeld2
                try simp only [Act.put, List.getElem_toArray, List.getElem_cons_succ, List.getElem_cons_zero, List.setIfInBounds_toArray, List.set_cons_zero, List.set_cons_succ]
                refine wpAnyH_ready (rs := [9]) (by kernel_rfl) (by simp) ?_
                refine AllReadyH.cons (i := 9) rfl (fun K hK => ?_) AllReadyH.nil
                go_simp
                go_wp2_with (go_at_call 9; refine (HHD.out _ i p f ra fa nr rc fn fc (gtrans HKWP.out HKZ.out) HPP.out HFF.out HNR.out HFN.out (HRT.out.keep HKZ.out) (HFR.out.keep HKZ.out)).mono ?_; rintro e w6 ⟨v17, rfl, h1, h2, h3⟩; have HO := hide1 h1; have HO66 := hide1 h2; have HKc := hide1 h3; have HK6 : Hid (Kept WP w6) := gtrans HKZ.out h3; clear h1 h2 h3)
                refine hK.out _ _ HK6.out (fun hHeld2 => ?_)
                clear hK K hHeld
                have hHeld := hHeld2
                clear hHeld2
                try simp only [Act.put, List.getElem_toArray, List.getElem_cons_succ, List.getElem_cons_zero, List.setIfInBounds_toArray, List.set_cons_zero, List.set_cons_succ]
                refine wpAnyH_take (i := 10) (v := .tuple #[v17, .agg #[.int .i64 0, .int .i64 0, .string ⟨#[]⟩]]) rfl (by kernel_rfl) (by kernel_rfl) (by kernel_rfl) (fun _ _ _ h => nomatch h.1) (Or.inl ⟨by rfl, fun w' hSw => ?_⟩) (by with_reducible assumption) ?_
                · skip
                  clear hSw
                  go_simp
                try simp only [Act.put, List.getElem_toArray, List.getElem_cons_succ, List.getElem_cons_zero, List.setIfInBounds_toArray, List.set_cons_zero, List.set_cons_succ]
                refine wpAnyH_take (i := 11) (v := v17) rfl (by kernel_rfl) (by kernel_rfl) (by kernel_rfl) (fun _ _ _ h => nomatch h.1) (Or.inl ⟨by rfl, fun w' hSw => ?_⟩) (by with_reducible assumption) ?_
                · skip
                  clear hSw
                  go_simp
                try simp only [Act.put, List.getElem_toArray, List.getElem_cons_succ, List.getElem_cons_zero, List.setIfInBounds_toArray, List.set_cons_zero, List.set_cons_succ]
                refine wpAnyH_take (i := 12) (v := .agg #[.int .i64 0, .int .i64 0, .string ⟨#[]⟩]) rfl (by kernel_rfl) (by kernel_rfl) (by kernel_rfl) (fun _ _ _ h => nomatch h.1) (Or.inl ⟨by rfl, fun w' hSw => ?_⟩) (by with_reducible assumption) ?_
                · skip
                  clear hSw
                  go_simp
                try simp only [Act.put, List.getElem_toArray, List.getElem_cons_succ, List.getElem_cons_zero, List.setIfInBounds_toArray, List.set_cons_zero, List.set_cons_succ]
                refine wpAnyH_take (i := 14) (v := v17) rfl (by kernel_rfl) (by kernel_rfl) (by kernel_rfl) (fun _ _ _ h => nomatch h.1) (Or.inl ⟨by rfl, fun w' hSw => ?_⟩) (by with_reducible assumption) ?_
                · skip
                  clear hSw
                  go_simp
                try simp only [Act.put, List.getElem_toArray, List.getElem_cons_succ, List.getElem_cons_zero, List.setIfInBounds_toArray, List.set_cons_zero, List.set_cons_succ]
                refine wpAnyH_ready (rs := [15]) (by kernel_rfl) (by simp) ?_
                refine AllReadyH.cons (i := 15) rfl (fun K hK => ?_) AllReadyH.nil
                have HFA := hide1 (HFZ.out.keep HKc.out)
                obtain ⟨⟨x0, x1, x2'⟩, z0, z1, z2⟩ := HFA.out.cells
                go_simp
                clear x0 x1 x2' z0 z1 z2
                have HFX := hide1 (HFA.out.fill 0 0)
                have HKX : Hid (Kept WP (((w6.setCell ⟨WP.heap.size, 0, none⟩ (.int .i64 0)).setCell ⟨WP.heap.size, 1, none⟩ (.int .i64 0)).setCell ⟨WP.heap.size, 2, none⟩ (.string ⟨#[]⟩))) := keepB (keepB (keepB HK6.out (Nat.le_refl _)) (Nat.le_refl _)) (Nat.le_refl _)
                have HV3 : Hid (IntsO (((w6.setCell ⟨WP.heap.size, 0, none⟩ (.int .i64 0)).setCell ⟨WP.heap.size, 1, none⟩ (.int .i64 0)).setCell ⟨WP.heap.size, 2, none⟩ (.string ⟨#[]⟩)) (WP.alloc (.cells #[.int .i64 0, .int .i64 0, .string ⟨#[]⟩] 44)).drew.heap.size v17 (hl i)) := owns_same HO.out (fun d hd => by have h1 := (HO.out.lt d hd).1; have h2 : WP.heap.size < (WP.alloc (.cells #[.int .i64 0, .int .i64 0, .string ⟨#[]⟩] 44)).drew.heap.size := HFZ.out.lt; exact (heap_set_ne (by omega)).trans ((heap_set_ne (by omega)).trans (heap_set_ne (by omega))))
                refine hK.out _ _ HKX.out (fun hHeld2 => ?_)
                clear hK K hHeld
                have hHeld := hHeld2
                clear hHeld2
                try simp only [Act.put, List.getElem_toArray, List.getElem_cons_succ, List.getElem_cons_zero, List.setIfInBounds_toArray, List.set_cons_zero, List.set_cons_succ]
                refine wpAnyH_done (by kernel_rfl) ?_ _
                exact ⟨rfl, v17, WP.heap.size, boJ_of _ (by kernel_rfl), intsO_low HV3.out (Nat.le_of_lt HFZ.out.lt), HFX.out, HO66.out, HKX.out⟩
            rintro e a' w5 ⟨rfl, v17, fb, ⟨T3, rfl⟩, HI5⟩
            have HKQ5 := hide1 (gtrans HKP.out HI5.out.2.2.2)
            have HK5 := hide1 (gtrans HKQ.out HKQ5.out)
            obtain ⟨la, lc, hv17⟩ := HI5.out.1.form
            subst hv17
            obtain ⟨ln, hln⟩ : ∃ ln, (hl i).length = ln := ⟨_, rfl⟩
            have HLN := hide1 hln
            have HI := hide1 HI5.out
            clear HI5
            rw [hln] at HI
            try rw [hln]
            clear hln
            have hl66 : ln ≤ 66 := HI.out.2.2.1
            have HLO : Hid (LO inE w5 WP.heap.size (val (la, ln, lc)) (hl i)) := ints_lo HI.out.1
            have HBN5 := hide1 (HBN.out.newA HKQ5.out HLO.out HKP.out.size (by have := HLN.out; omega))
            have HX5 : Hid (LO slE w5 0 (.slice (some ⟨g2, 0, none⟩) nn nn) x2 ∧ LO slE w5 0 (.slice (some ⟨g3, 0, none⟩) nn nn) x3 ∧ LO slE w5 0 (.slice ay m m) x4) := ⟨HX.out.1.keep HKQ5.out, HX.out.2.1.keep HKQ5.out, HX.out.2.2.keep HKQ5.out⟩
            have HTB5 := hide1 (HTB.out.keep HKQ5.out)
            obtain ⟨p0, p1, p2⟩ := HI.out.2.1.cells.1
            obtain ⟨qa, qc, rfl⟩ := HBN5.out.ha.form
            obtain ⟨ha, hc, rfl⟩ := HBN5.out.hh.form
            obtain ⟨nq, hnq2⟩ : ∃ n, qs.length = n := ⟨_, rfl⟩
            obtain ⟨nhh, hnh2⟩ : ∃ n, hs.length = n := ⟨_, rfl⟩
            rw [hnq2] at HBN5 hnq ⊢
            rw [hnh2] at HBN5 ⊢
            have HNQ := hide1 hnq2
            have HNH := hide1 hnh2
            have hnhe : nhh = nh := by have := HBN5.out.hl; rw [hnh2, List.length_map, List.length_range] at this; exact this
            subst hnhe
            have HNQI := hide1 hnq
            have hnqb : nq ≤ 2000 := by omega
            clear hnq hnq2 hnh2 HBN HX HTB HKP HPB HRT HFQ HFR HFN HPP HFF HNR HKWP
            by_cases hz : t = 0
            · subst hz
              have hi0 : nhh = i := hnh0 rfl
              subst hi0
              have HE1 : Hid (Kept w5 (w5.alloc (.cells #[] 3))) := (Kept.refl w5).alloc _ _
              have HEB : Hid (LO inE (w5.alloc (.cells #[] 3)) w5.heap.size (.slice (some ⟨w5.heap.size, 0, none⟩) 0 0) []) := lo_emptyH w5 (Nat.le_refl _)
              have HSR : Hid (Src inE (w5.alloc (.cells #[] 3)) la (hl nhh)) := src_sl (E := inE) (((HI.out.1).read (by have := HLN.out; omega) : IntsR w5 (.slice la ln lc) (hl nhh)).keep HE1.out)
              go_upto_region 24 with (first
                | (at_builtin; have _g := HEB; clear _g; refine wpl_many (E := inE) rfl _ _ rfl w5.heap.size (.slice (some ⟨w5.heap.size, 0, none⟩) 0 0) [] (hl nhh) 0 ln ln rfl HLN.out (Nat.zero_add ln) (by rfl) HEB.out la lc (by rfl) HSR.out (by show ln * 8 ≤ 140737488355328; omega) (by unfold maxLen; omega) (alloc_leH w5 _) ?_; intro aC cC wC hoC hgC horC; have hkC : Kept w5 wC := kept_newH hgC; have HKC := hide1 hkC; have HOC := hide1 hoC; clear hoC hgC horC hkC HEB)
                | (at_builtin; have _g := HOC; clear _g; refine wpl_many (E := slE) rfl _ _ rfl W1.heap.size (.slice ha nhh hc) hs [(aC, ln, cC)] nhh 1 (nhh + 1) HNH.out rfl rfl (by rfl) ((HBN5.out.hh.keep HKC.out).keep ((Kept.refl wC).alloc _ _)) (some ⟨wC.heap.size, 0, none⟩) 1 (by rfl) (src_one (heap_alloc_new wC _)) (by show (nhh + 1) * 24 ≤ 140737488355328; omega) (by unfold maxLen; omega) (Nat.le_trans HBN5.out.kept.size (Nat.le_trans HKC.out.size (alloc_leH wC _))) ?_; intro ha2 hc2 w7 ho7 hg7 hor7; have HB7 := hide1 (BkS.headH (x := (aC, ln, cC)) (l := hl nhh) HBN5.out (gtrans HKC.out ((Kept.refl wC).alloc #[.slice aC ln cC] 41)) (HOC.out.keep ((Kept.refl wC).alloc _ _)) ho7 ⟨hg7, hor7⟩); have HM7 := hide1 (show Moved _ w7 (.slice ha nhh hc) (.slice ha2 (nhh + 1) hc2) from ⟨hg7, hor7⟩); have HKD := hide1 (gtrans HKC.out ((Kept.refl wC).alloc #[.slice aC ln cC] 41)); clear ho7 hg7 hor7))
              have HX7 : Hid (LO slE w7 0 (.slice (some ⟨g2, 0, none⟩) nn nn) x2 ∧ LO slE w7 0 (.slice (some ⟨g3, 0, none⟩) nn nn) x3 ∧ LO slE w7 0 (.slice ay m m) x4) := ⟨rows_moved (HX5.out.1.keep HKD.out) HM7.out (fun d hd e => (HBN5.out.d2 (some ⟨g2, 0, none⟩, nn, nn) (by simp) d hd).2 e), rows_moved (HX5.out.2.1.keep HKD.out) HM7.out (fun d hd e => (HBN5.out.d2 (some ⟨g3, 0, none⟩, nn, nn) (by simp) d hd).2 e), rows_moved (HX5.out.2.2.keep HKD.out) HM7.out (fun d hd e => (HBN5.out.d2 (ay, m, m) (by simp) d hd).2 e)⟩
              have HTB7 := hide1 (td_moved (HTB5.out.keep HKD.out) (HBN5.out.hh.keep HKD.out) (by decide) HM7.out)
              clear HX5 HTB5 HM7 HKD HKC HOC HSR HE1 HLO
              have HSX : Hid (Src slE (w7.alloc (.cells #[.slice la ln lc] 41)) (some ⟨w7.heap.size, 0, none⟩) [(la, ln, lc)]) := src_one (heap_alloc_new w7 _)
              have HKA : Hid (Kept w7 (w7.alloc (.cells #[.slice la ln lc] 41))) := (Kept.refl w7).alloc _ _
              go_wp2_with (at_builtin; refine wpl_many (E := slE) rfl _ _ rfl W1.heap.size (.slice qa nq qc) qs [(la, ln, lc)] nq 1 (nq + 1) HNQ.out rfl rfl (by rfl) (HB7.out.ha.keep HKA.out) (some ⟨w7.heap.size, 0, none⟩) 1 (by rfl) HSX.out (by show (nq + 1) * 24 ≤ 140737488355328; omega) (by unfold maxLen; omega) (Nat.le_trans HB7.out.kept.size HKA.out.size) ?_; intro qa2 qc2 w8 ho8 hg8 hor8; have HB8 := hide1 (BkS.headA (ys := [(la, ln, lc)]) HB7.out HKA.out ho8 ⟨hg8, hor8⟩); have HM8 := hide1 (show Moved _ w8 (.slice qa nq qc) (.slice qa2 (nq + 1) qc2) from ⟨hg8, hor8⟩); clear ho8 hg8 hor8)
              have HX8 : Hid (LO slE w8 0 (.slice (some ⟨g2, 0, none⟩) nn nn) x2 ∧ LO slE w8 0 (.slice (some ⟨g3, 0, none⟩) nn nn) x3 ∧ LO slE w8 0 (.slice ay m m) x4) := ⟨rows_moved (HX7.out.1.keep HKA.out) HM8.out (fun d hd e => (HB7.out.d2 (some ⟨g2, 0, none⟩, nn, nn) (by simp) d hd).1 e), rows_moved (HX7.out.2.1.keep HKA.out) HM8.out (fun d hd e => (HB7.out.d2 (some ⟨g3, 0, none⟩, nn, nn) (by simp) d hd).1 e), rows_moved (HX7.out.2.2.keep HKA.out) HM8.out (fun d hd e => (HB7.out.d2 (ay, m, m) (by simp) d hd).1 e)⟩
              have HTB8 := hide1 (td_moved (HTB7.out.keep HKA.out) (HB7.out.ha.keep HKA.out) (by decide) HM8.out)
              refine ⟨⟨nhh + 1, _, qs ++ [(la, ln, lc)], _, hs ++ [(aC, ln, cC)], nhh + 1, boI_of _ (by kernel_rfl), by omega, fun h => by omega, fun _ => rfl, by rw [List.length_append, HNQ.out]; show nq + 1 = _; have := HNQI.out; omega, by rw [range_map]; exact HB8, HX8, HTB8⟩, ?_⟩
              show 8 - (intOf (.int .i64 ((nhh : Int) + 1))).toNat < 8 - (intOf (.int .i64 (nhh : Int))).toNat
              simp [intOf] <;> omega
            · have ht0 : (0 : Int) < (t : Int) := by omega
              have htz : ((t : Int) == 0) = false := by simp; omega
              have hnK : nhh = K := hnh (by omega)
              subst hnK
              obtain ⟨hg, rfl⟩ := HBN5.out.hh.some (by intro e; have h := HNH.out; rw [e] at h; have h : 0 = nhh := h; omega)
              obtain ⟨⟨ya, yn, yc⟩, hy⟩ : ∃ y, hs[i]? = some y := ⟨_, List.getElem?_eq_getElem (by have := HNH.out; omega)⟩
              obtain ⟨hg', ehg, hyc⟩ := Sh.lo_sl HBN5.out.hh rfl rfl hy
              injection ehg with ehg
              injection ehg with ehg
              subst ehg
              have hye := HBN5.out.eh i _ _ hy (range_at hl hgo)
              have hyl : yn = ln := by have h := lo_lens (show LO inE w5 _ (.slice ya yn yc) (hl i) from hye); have := HLN.out; omega
              subst hyl
              have HYE : Hid (IntsR w5 (.slice ya yn yc) (hl i)) := (lo_ints hye).read (by have := HLN.out; omega)
              have HVE : Hid (IntsR w5 (.slice la yn lc) (hl i)) := HI.out.1.read (by have := HLN.out; omega)
              have hyc' : w5.cell? ⟨hg, i, none⟩ = some (.slice ya yn yc) := hyc
              have hcc : (i : Int) < (nhh : Int) := by omega
              have hcc2 : (nhh : Int) ≤ (hc : Int) := by have := HBN5.out.hh.cap; have := HNH.out; omega
              clear hyc hye hy
              go_upto_region 24 with (go_at_call 10; refine (sameIntsS_is la ya yn lc yn yc (hl i) (hl i) w5 HLN.out HLN.out HVE.out HYE.out).mono ?_; rintro e w7 ⟨rfl, hk7⟩; rw [decide_eq_true rfl]; have HK7 := hide1 hk7; clear hk7)
              have HB7 := hide1 (HBN5.out.keep HK7.out)
              have HX7 : Hid (LO slE w7 0 (.slice (some ⟨g2, 0, none⟩) nn nn) x2 ∧ LO slE w7 0 (.slice (some ⟨g3, 0, none⟩) nn nn) x3 ∧ LO slE w7 0 (.slice ay m m) x4) := ⟨HX5.out.1.keep HK7.out, HX5.out.2.1.keep HK7.out, HX5.out.2.2.keep HK7.out⟩
              have HTB7 := hide1 (HTB5.out.keep HK7.out)
              clear HX5 HTB5 HLO HYE HVE hyc' hcc2 p0 p1 p2
              have HSX : Hid (Src slE (w7.alloc (.cells #[.slice la yn lc] 41)) (some ⟨w7.heap.size, 0, none⟩) [(la, yn, lc)]) := src_one (heap_alloc_new w7 _)
              have HKA : Hid (Kept w7 (w7.alloc (.cells #[.slice la yn lc] 41))) := (Kept.refl w7).alloc _ _
              go_wp2_with (at_builtin; refine wpl_many (E := slE) rfl _ _ rfl W1.heap.size (.slice qa nq qc) qs [(la, yn, lc)] nq 1 (nq + 1) HNQ.out rfl rfl (by rfl) (HB7.out.ha.keep HKA.out) (some ⟨w7.heap.size, 0, none⟩) 1 (by rfl) HSX.out (by show (nq + 1) * 24 ≤ 140737488355328; omega) (by unfold maxLen; omega) (Nat.le_trans HB7.out.kept.size HKA.out.size) ?_; intro qa2 qc2 w8 ho8 hg8 hor8; have HB8 := hide1 (BkS.headA (ys := [(la, yn, lc)]) HB7.out HKA.out ho8 ⟨hg8, hor8⟩); have HM8 := hide1 (show Moved _ w8 (.slice qa nq qc) (.slice qa2 (nq + 1) qc2) from ⟨hg8, hor8⟩); clear ho8 hg8 hor8)
              have HX8 : Hid (LO slE w8 0 (.slice (some ⟨g2, 0, none⟩) nn nn) x2 ∧ LO slE w8 0 (.slice (some ⟨g3, 0, none⟩) nn nn) x3 ∧ LO slE w8 0 (.slice ay m m) x4) := ⟨rows_moved (HX7.out.1.keep HKA.out) HM8.out (fun d hd e => (HB7.out.d2 (some ⟨g2, 0, none⟩, nn, nn) (by simp) d hd).1 e), rows_moved (HX7.out.2.1.keep HKA.out) HM8.out (fun d hd e => (HB7.out.d2 (some ⟨g3, 0, none⟩, nn, nn) (by simp) d hd).1 e), rows_moved (HX7.out.2.2.keep HKA.out) HM8.out (fun d hd e => (HB7.out.d2 (ay, m, m) (by simp) d hd).1 e)⟩
              have HTB8 := hide1 (td_moved (HTB7.out.keep HKA.out) (HB7.out.ha.keep HKA.out) (by decide) HM8.out)
              refine ⟨⟨i + 1, _, qs ++ [(la, yn, lc)], _, hs, nhh, boI_of _ (by kernel_rfl), by omega, fun _ => rfl, fun h => by omega, by rw [List.length_append, HNQ.out]; show nq + 1 = _; have := HNQI.out; omega, HB8, HX8, HTB8⟩, ?_⟩
              show 8 - (intOf (.int .i64 ((i : Int) + 1))).toNat < 8 - (intOf (.int .i64 (i : Int))).toNat
              simp [intOf] <;> omega
          · obtain rfl : i = K := by omega
            obtain ⟨qa, qc, rfl⟩ := HBN.out.ha.form
            obtain ⟨ovA, ovC, rfl⟩ := HBN.out.ho.form
            obtain ⟨evA, evC, rfl⟩ := HBN.out.he.form
            obtain ⟨nq, hnq2⟩ : ∃ n, qs.length = n := ⟨_, rfl⟩
            rw [hnq2] at HBN hnq ⊢
            rw [hos] at HBN ⊢
            rw [hbs] at HBN ⊢
            have HNQ := hide1 hnq2
            have HOS := hide1 hos
            have HBS := hide1 hbs
            have HXN : Hid (x2.length = nn ∧ x3.length = nn ∧ x4.length = m) := ⟨by rw [HXL.out.1]; exact HUL.out.2.1, by rw [HXL.out.2.1]; exact HUL.out.2.2.1, by rw [HXL.out.2.2]; exact HM4.out⟩
            obtain ⟨n2, hn2⟩ : ∃ n, nq + nn = n := ⟨_, rfl⟩
            obtain ⟨n3, hn3⟩ : ∃ n, n2 + nn = n := ⟨_, rfl⟩
            obtain ⟨n4, hn4⟩ : ∃ n, n3 + m = n := ⟨_, rfl⟩
            obtain ⟨k3, hk3⟩ : ∃ n, 3 * t = n := ⟨_, rfl⟩
            rw [hk3] at HBN HOS ⊢
            have HN2 := hide1 hn2
            have HN3 := hide1 hn3
            have HN4 := hide1 hn4
            have HK3 := hide1 hk3
            have hb4 : n4 ≤ 2000 := by omega
            have hb3 : n3 ≤ 2000 := by omega
            have hb2 : n2 ≤ 2000 := by omega
            have hbk : k3 ≤ 12 := by omega
            have hgt : N0 + i = nq := hnq.symm
            have hend : n4 ≤ 400 * (t + 1) := by omega
            have hpos : 0 < n4 := by omega
            clear hnq2 hn2 hn3 hn4 hos hbs hnq hk3
            have hc : ¬ ((i : Int) < (np : Int)) ∨ ((i : Int) < (np : Int) ∧ ¬ ((i : Int) < 8)) := by omega
            rcases hc with hc | ⟨hc1, hc⟩
            · go_upto_region 25 with fail
              obtain ⟨⟨f0, f1, f2, f3, f4⟩, -⟩ := HTB.out.cells
              go_upto_region 26 with (at_builtin; refine wpl_many (E := slE) rfl _ _ rfl W1.heap.size (.slice qa nq qc) qs x2 nq nn n2 HNQ.out HXN.out.1 HN2.out (by rfl) HBN.out.ha (some ⟨g2, 0, none⟩) nn (by rfl) (HX.out.1).src (by show n2 * 24 ≤ 140737488355328; omega) (by unfold maxLen; omega) HBN.out.kept.size ?_; intro waa wac wa ho hg hor; have HBwa := hide1 (BkS.headA (ys := x2) HBN.out (Kept.refl _) ho ⟨hg, hor⟩); have HMwa := hide1 (show Moved wq wa (.slice qa nq qc) (.slice waa n2 wac) from ⟨hg, hor⟩); clear ho hg hor)
              clear f0 f1 f2 f3 f4
              have HNQ2 : Hid ((qs ++ x2).length = n2) := by show _ = _; rw [List.length_append, HNQ.out, HXN.out.1]; exact HN2.out
              have HTBa := hide1 (td_moved HTB.out HBN.out.ha (by decide) HMwa.out)
              have HXa : Hid (LO slE wa 0 (.slice (some ⟨g3, 0, none⟩) nn nn) x3 ∧ LO slE wa 0 (.slice ay m m) x4) := ⟨rows_moved HX.out.2.1 HMwa.out (fun d hd e => (HBN.out.d2 (some ⟨g3, 0, none⟩, nn, nn) (by simp) d hd).1 e), rows_moved HX.out.2.2 HMwa.out (fun d hd e => (HBN.out.d2 (ay, m, m) (by simp) d hd).1 e)⟩
              obtain ⟨⟨f0, f1, f2, f3, f4⟩, -⟩ := HTBa.out.cells
              go_upto_region 27 with (at_builtin; refine wpl_many (E := slE) rfl _ _ rfl W1.heap.size (.slice waa n2 wac) (qs ++ x2) x3 n2 nn n3 HNQ2.out HXN.out.2.1 HN3.out (by rfl) HBwa.out.ha (some ⟨g3, 0, none⟩) nn (by rfl) (HXa.out.1).src (by show n3 * 24 ≤ 140737488355328; omega) (by unfold maxLen; omega) HBwa.out.kept.size ?_; intro wca wcc wc ho hg hor; have HBwc := hide1 (BkS.headA (ys := x3) HBwa.out (Kept.refl _) ho ⟨hg, hor⟩); have HMwc := hide1 (show Moved wa wc (.slice waa n2 wac) (.slice wca n3 wcc) from ⟨hg, hor⟩); clear ho hg hor)
              clear f0 f1 f2 f3 f4
              have HNQ3 : Hid ((qs ++ x2 ++ x3).length = n3) := by show _ = _; rw [List.length_append, HNQ2.out, HXN.out.2.1]; exact HN3.out
              have HTBc := hide1 (td_moved HTBa.out HBwa.out.ha (by decide) HMwc.out)
              have HXc : Hid (LO slE wc 0 (.slice ay m m) x4) := rows_moved HXa.out.2 HMwc.out (fun d hd e => (HBwa.out.d2 (ay, m, m) (by simp) d hd).1 e)
              have HBwc2 : Hid (BkS W1 wc (.slice wca n3 wcc) (qs ++ x2 ++ x3) (x4 ++ []) hv hs ((List.range nh).map hl) (.slice ovA k3 ovC) os [(some ⟨g2, 0, none⟩, nn, nn), (some ⟨g3, 0, none⟩, nn, nn), (ay, m, m)] (.slice evA t evC) bs [(some ⟨g1, 0, none⟩, nn, nn)]) := by show BkS _ _ _ _ _ _ _ _ _ _ _ _ _ _; rw [List.append_nil]; exact HBwc.out
              clear HBwc
              have HBwc := HBwc2
              clear HBwc2
              obtain ⟨⟨f0, f1, f2, f3, f4⟩, -⟩ := HTBc.out.cells
              go_upto_region 28 with (at_builtin; refine wpl_many (E := slE) rfl _ _ rfl W1.heap.size (.slice wca n3 wcc) (qs ++ x2 ++ x3) x4 n3 m n4 HNQ3.out HXN.out.2.2 HN4.out (by rfl) HBwc.out.ha ay m (by rfl) (HXc.out).src (by show n4 * 24 ≤ 140737488355328; omega) (by unfold maxLen; omega) HBwc.out.kept.size ?_; intro wea wec we ho hg hor; have HBwe := hide1 (BkS.headA (ys := x4) HBwc.out (Kept.refl _) ho ⟨hg, hor⟩); have HMwe := hide1 (show Moved wc we (.slice wca n3 wcc) (.slice wea n4 wec) from ⟨hg, hor⟩); clear ho hg hor)
              clear f0 f1 f2 f3 f4
              have HTBe := hide1 (td_moved HTBc.out HBwc.out.ha (by decide) HMwe.out)
              have HKE : Hid (Kept we (we.alloc (.cells #[.slice (some ⟨g2, 0, none⟩) nn nn, .slice (some ⟨g3, 0, none⟩) nn nn, .slice ay m m] 28))) := (Kept.refl we).alloc _ _
              have HSE : Hid (Src llE (we.alloc (.cells #[.slice (some ⟨g2, 0, none⟩) nn nn, .slice (some ⟨g3, 0, none⟩) nn nn, .slice ay m m] 28)) (some ⟨we.heap.size, 0, none⟩) [(some ⟨g2, 0, none⟩, nn, nn), (some ⟨g3, 0, none⟩, nn, nn), (ay, m, m)]) := src_three (heap_alloc_new we _)
              have HBwe2 : Hid (BkS W1 we (.slice wea n4 wec) (qs ++ x2 ++ x3 ++ x4) [] hv hs ((List.range nh).map hl) (.slice ovA k3 ovC) os ([(some ⟨g2, 0, none⟩, nn, nn), (some ⟨g3, 0, none⟩, nn, nn), (ay, m, m)] ++ []) (.slice evA t evC) bs [(some ⟨g1, 0, none⟩, nn, nn)]) := HBwe.out
              obtain ⟨⟨f0, f1, f2, f3, f4⟩, -⟩ := HTBe.out.cells
              go_upto_region 29 with (at_builtin; refine wpl_many (E := llE) rfl _ _ rfl W1.heap.size (.slice ovA k3 ovC) os [(some ⟨g2, 0, none⟩, nn, nn), (some ⟨g3, 0, none⟩, nn, nn), (ay, m, m)] k3 3 (k3 + 3) HOS.out rfl rfl (by rfl) (HBwe2.out.ho.keep HKE.out) (some ⟨we.heap.size, 0, none⟩) 3 (by rfl) HSE.out (by show (k3 + 3) * 24 ≤ 140737488355328; omega) (by unfold maxLen; omega) (Nat.le_trans HBwe2.out.kept.size HKE.out.size) ?_; intro wfa wfc wf ho hg hor; have HBwf := hide1 (BkS.headO (ys := [(some ⟨g2, 0, none⟩, nn, nn), (some ⟨g3, 0, none⟩, nn, nn), (ay, m, m)]) (po' := []) HBwe2.out HKE.out ho ⟨hg, hor⟩); have HMwf := hide1 (show Moved _ wf (.slice ovA k3 ovC) (.slice wfa (k3 + 3) wfc) from ⟨hg, hor⟩); clear ho hg hor)
              clear f0 f1 f2 f3 f4
              have HTBf := hide1 (td_moved (HTBe.out.keep HKE.out) (HBwe2.out.ho.keep HKE.out) (by decide) HMwf.out)
              have HKF : Hid (Kept wf (wf.alloc (.cells #[.slice (some ⟨g1, 0, none⟩) nn nn] 27))) := (Kept.refl wf).alloc _ _
              have HSF : Hid (Src blE (wf.alloc (.cells #[.slice (some ⟨g1, 0, none⟩) nn nn] 27)) (some ⟨wf.heap.size, 0, none⟩) [(some ⟨g1, 0, none⟩, nn, nn)]) := src_one (heap_alloc_new wf _)
              have HBwf2 : Hid (BkS W1 wf (.slice wea n4 wec) (qs ++ x2 ++ x3 ++ x4) [] hv hs ((List.range nh).map hl) (.slice wfa (k3 + 3) wfc) (os ++ [(some ⟨g2, 0, none⟩, nn, nn), (some ⟨g3, 0, none⟩, nn, nn), (ay, m, m)]) [] (.slice evA t evC) bs ([(some ⟨g1, 0, none⟩, nn, nn)] ++ [])) := HBwf.out
              obtain ⟨⟨f0, f1, f2, f3, f4⟩, -⟩ := HTBf.out.cells
              go_wp2_with (at_builtin; refine wpl_many (E := blE) rfl _ _ rfl W1.heap.size (.slice evA t evC) bs [(some ⟨g1, 0, none⟩, nn, nn)] t 1 (t + 1) HBS.out rfl rfl (by rfl) (HBwf2.out.he.keep HKF.out) (some ⟨wf.heap.size, 0, none⟩) 1 (by rfl) HSF.out (by show (t + 1) * 24 ≤ 140737488355328; omega) (by unfold maxLen; omega) (Nat.le_trans HBwf2.out.kept.size HKF.out.size) ?_; intro wga wgc wg ho hg hor; have HBwg := hide1 (BkS.headB (ys := [(some ⟨g1, 0, none⟩, nn, nn)]) (pb' := []) HBwf2.out HKF.out ho ⟨hg, hor⟩); clear ho hg hor)
              have hnq4 : (qs ++ x2 ++ x3 ++ x4).length = n4 := by rw [List.length_append, HNQ3.out, HXN.out.2.2]; exact HN4.out
              have hnk : nh = i := by by_cases e : t = 0; exact hnh0 e; exact hnh (by omega)
              refine ⟨⟨t + 1, _, qs ++ x2 ++ x3 ++ x4, _, hs, nh, _, os ++ [(some ⟨g2, 0, none⟩, nn, nn), (some ⟨g3, 0, none⟩, nn, nn), (ay, m, m)], _, bs ++ [(some ⟨g1, 0, none⟩, nn, nn)], boF_of _ (by kernel_rfl), by omega, fun _ => hnk, fun h => by omega, by rw [hnq4]; exact hend, by rw [List.length_append, HOS.out]; show k3 + 3 = _; have := HK3.out; omega, by rw [List.length_append, HBS.out]; rfl, fun _ => by rw [hnq4]; exact hpos, HBwg⟩, ?_⟩
              show 4 - (intOf (.int .i64 ((t : Int) + 1))).toNat < 4 - (intOf (.int .i64 (t : Int))).toNat
              simp [intOf] <;> omega
            · go_upto_region 25 with fail
              obtain ⟨⟨f0, f1, f2, f3, f4⟩, -⟩ := HTB.out.cells
              go_upto_region 26 with (at_builtin; refine wpl_many (E := slE) rfl _ _ rfl W1.heap.size (.slice qa nq qc) qs x2 nq nn n2 HNQ.out HXN.out.1 HN2.out (by rfl) HBN.out.ha (some ⟨g2, 0, none⟩) nn (by rfl) (HX.out.1).src (by show n2 * 24 ≤ 140737488355328; omega) (by unfold maxLen; omega) HBN.out.kept.size ?_; intro waa wac wa ho hg hor; have HBwa := hide1 (BkS.headA (ys := x2) HBN.out (Kept.refl _) ho ⟨hg, hor⟩); have HMwa := hide1 (show Moved wq wa (.slice qa nq qc) (.slice waa n2 wac) from ⟨hg, hor⟩); clear ho hg hor)
              clear f0 f1 f2 f3 f4
              have HNQ2 : Hid ((qs ++ x2).length = n2) := by show _ = _; rw [List.length_append, HNQ.out, HXN.out.1]; exact HN2.out
              have HTBa := hide1 (td_moved HTB.out HBN.out.ha (by decide) HMwa.out)
              have HXa : Hid (LO slE wa 0 (.slice (some ⟨g3, 0, none⟩) nn nn) x3 ∧ LO slE wa 0 (.slice ay m m) x4) := ⟨rows_moved HX.out.2.1 HMwa.out (fun d hd e => (HBN.out.d2 (some ⟨g3, 0, none⟩, nn, nn) (by simp) d hd).1 e), rows_moved HX.out.2.2 HMwa.out (fun d hd e => (HBN.out.d2 (ay, m, m) (by simp) d hd).1 e)⟩
              obtain ⟨⟨f0, f1, f2, f3, f4⟩, -⟩ := HTBa.out.cells
              go_upto_region 27 with (at_builtin; refine wpl_many (E := slE) rfl _ _ rfl W1.heap.size (.slice waa n2 wac) (qs ++ x2) x3 n2 nn n3 HNQ2.out HXN.out.2.1 HN3.out (by rfl) HBwa.out.ha (some ⟨g3, 0, none⟩) nn (by rfl) (HXa.out.1).src (by show n3 * 24 ≤ 140737488355328; omega) (by unfold maxLen; omega) HBwa.out.kept.size ?_; intro wca wcc wc ho hg hor; have HBwc := hide1 (BkS.headA (ys := x3) HBwa.out (Kept.refl _) ho ⟨hg, hor⟩); have HMwc := hide1 (show Moved wa wc (.slice waa n2 wac) (.slice wca n3 wcc) from ⟨hg, hor⟩); clear ho hg hor)
              clear f0 f1 f2 f3 f4
              have HNQ3 : Hid ((qs ++ x2 ++ x3).length = n3) := by show _ = _; rw [List.length_append, HNQ2.out, HXN.out.2.1]; exact HN3.out
              have HTBc := hide1 (td_moved HTBa.out HBwa.out.ha (by decide) HMwc.out)
              have HXc : Hid (LO slE wc 0 (.slice ay m m) x4) := rows_moved HXa.out.2 HMwc.out (fun d hd e => (HBwa.out.d2 (ay, m, m) (by simp) d hd).1 e)
              have HBwc2 : Hid (BkS W1 wc (.slice wca n3 wcc) (qs ++ x2 ++ x3) (x4 ++ []) hv hs ((List.range nh).map hl) (.slice ovA k3 ovC) os [(some ⟨g2, 0, none⟩, nn, nn), (some ⟨g3, 0, none⟩, nn, nn), (ay, m, m)] (.slice evA t evC) bs [(some ⟨g1, 0, none⟩, nn, nn)]) := by show BkS _ _ _ _ _ _ _ _ _ _ _ _ _ _; rw [List.append_nil]; exact HBwc.out
              clear HBwc
              have HBwc := HBwc2
              clear HBwc2
              obtain ⟨⟨f0, f1, f2, f3, f4⟩, -⟩ := HTBc.out.cells
              go_upto_region 28 with (at_builtin; refine wpl_many (E := slE) rfl _ _ rfl W1.heap.size (.slice wca n3 wcc) (qs ++ x2 ++ x3) x4 n3 m n4 HNQ3.out HXN.out.2.2 HN4.out (by rfl) HBwc.out.ha ay m (by rfl) (HXc.out).src (by show n4 * 24 ≤ 140737488355328; omega) (by unfold maxLen; omega) HBwc.out.kept.size ?_; intro wea wec we ho hg hor; have HBwe := hide1 (BkS.headA (ys := x4) HBwc.out (Kept.refl _) ho ⟨hg, hor⟩); have HMwe := hide1 (show Moved wc we (.slice wca n3 wcc) (.slice wea n4 wec) from ⟨hg, hor⟩); clear ho hg hor)
              clear f0 f1 f2 f3 f4
              have HTBe := hide1 (td_moved HTBc.out HBwc.out.ha (by decide) HMwe.out)
              have HKE : Hid (Kept we (we.alloc (.cells #[.slice (some ⟨g2, 0, none⟩) nn nn, .slice (some ⟨g3, 0, none⟩) nn nn, .slice ay m m] 28))) := (Kept.refl we).alloc _ _
              have HSE : Hid (Src llE (we.alloc (.cells #[.slice (some ⟨g2, 0, none⟩) nn nn, .slice (some ⟨g3, 0, none⟩) nn nn, .slice ay m m] 28)) (some ⟨we.heap.size, 0, none⟩) [(some ⟨g2, 0, none⟩, nn, nn), (some ⟨g3, 0, none⟩, nn, nn), (ay, m, m)]) := src_three (heap_alloc_new we _)
              have HBwe2 : Hid (BkS W1 we (.slice wea n4 wec) (qs ++ x2 ++ x3 ++ x4) [] hv hs ((List.range nh).map hl) (.slice ovA k3 ovC) os ([(some ⟨g2, 0, none⟩, nn, nn), (some ⟨g3, 0, none⟩, nn, nn), (ay, m, m)] ++ []) (.slice evA t evC) bs [(some ⟨g1, 0, none⟩, nn, nn)]) := HBwe.out
              obtain ⟨⟨f0, f1, f2, f3, f4⟩, -⟩ := HTBe.out.cells
              go_upto_region 29 with (at_builtin; refine wpl_many (E := llE) rfl _ _ rfl W1.heap.size (.slice ovA k3 ovC) os [(some ⟨g2, 0, none⟩, nn, nn), (some ⟨g3, 0, none⟩, nn, nn), (ay, m, m)] k3 3 (k3 + 3) HOS.out rfl rfl (by rfl) (HBwe2.out.ho.keep HKE.out) (some ⟨we.heap.size, 0, none⟩) 3 (by rfl) HSE.out (by show (k3 + 3) * 24 ≤ 140737488355328; omega) (by unfold maxLen; omega) (Nat.le_trans HBwe2.out.kept.size HKE.out.size) ?_; intro wfa wfc wf ho hg hor; have HBwf := hide1 (BkS.headO (ys := [(some ⟨g2, 0, none⟩, nn, nn), (some ⟨g3, 0, none⟩, nn, nn), (ay, m, m)]) (po' := []) HBwe2.out HKE.out ho ⟨hg, hor⟩); have HMwf := hide1 (show Moved _ wf (.slice ovA k3 ovC) (.slice wfa (k3 + 3) wfc) from ⟨hg, hor⟩); clear ho hg hor)
              clear f0 f1 f2 f3 f4
              have HTBf := hide1 (td_moved (HTBe.out.keep HKE.out) (HBwe2.out.ho.keep HKE.out) (by decide) HMwf.out)
              have HKF : Hid (Kept wf (wf.alloc (.cells #[.slice (some ⟨g1, 0, none⟩) nn nn] 27))) := (Kept.refl wf).alloc _ _
              have HSF : Hid (Src blE (wf.alloc (.cells #[.slice (some ⟨g1, 0, none⟩) nn nn] 27)) (some ⟨wf.heap.size, 0, none⟩) [(some ⟨g1, 0, none⟩, nn, nn)]) := src_one (heap_alloc_new wf _)
              have HBwf2 : Hid (BkS W1 wf (.slice wea n4 wec) (qs ++ x2 ++ x3 ++ x4) [] hv hs ((List.range nh).map hl) (.slice wfa (k3 + 3) wfc) (os ++ [(some ⟨g2, 0, none⟩, nn, nn), (some ⟨g3, 0, none⟩, nn, nn), (ay, m, m)]) [] (.slice evA t evC) bs ([(some ⟨g1, 0, none⟩, nn, nn)] ++ [])) := HBwf.out
              obtain ⟨⟨f0, f1, f2, f3, f4⟩, -⟩ := HTBf.out.cells
              go_wp2_with (at_builtin; refine wpl_many (E := blE) rfl _ _ rfl W1.heap.size (.slice evA t evC) bs [(some ⟨g1, 0, none⟩, nn, nn)] t 1 (t + 1) HBS.out rfl rfl (by rfl) (HBwf2.out.he.keep HKF.out) (some ⟨wf.heap.size, 0, none⟩) 1 (by rfl) HSF.out (by show (t + 1) * 24 ≤ 140737488355328; omega) (by unfold maxLen; omega) (Nat.le_trans HBwf2.out.kept.size HKF.out.size) ?_; intro wga wgc wg ho hg hor; have HBwg := hide1 (BkS.headB (ys := [(some ⟨g1, 0, none⟩, nn, nn)]) (pb' := []) HBwf2.out HKF.out ho ⟨hg, hor⟩); clear ho hg hor)
              have hnq4 : (qs ++ x2 ++ x3 ++ x4).length = n4 := by rw [List.length_append, HNQ3.out, HXN.out.2.2]; exact HN4.out
              have hnk : nh = i := by by_cases e : t = 0; exact hnh0 e; exact hnh (by omega)
              refine ⟨⟨t + 1, _, qs ++ x2 ++ x3 ++ x4, _, hs, nh, _, os ++ [(some ⟨g2, 0, none⟩, nn, nn), (some ⟨g3, 0, none⟩, nn, nn), (ay, m, m)], _, bs ++ [(some ⟨g1, 0, none⟩, nn, nn)], boF_of _ (by kernel_rfl), by omega, fun _ => hnk, fun h => by omega, by rw [hnq4]; exact hend, by rw [List.length_append, HOS.out]; show k3 + 3 = _; have := HK3.out; omega, by rw [List.length_append, HBS.out]; rfl, fun _ => by rw [hnq4]; exact hpos, HBwg⟩, ?_⟩
              show 4 - (intOf (.int .i64 ((t : Int) + 1))).toNat < 4 - (intOf (.int .i64 (t : Int))).toNat
              simp [intOf] <;> omega
      · obtain rfl : t = 4 := by omega
        have HKR : Hid (Kept W1 wr) := HBK.out.kept
        obtain rfl : nh = K := hnh (by omega)
        obtain ⟨qa, qc, rfl⟩ := HBK.out.ha.form
        obtain ⟨ha, hc, rfl⟩ := HBK.out.hh.form
        obtain ⟨ovA, ovC, rfl⟩ := HBK.out.ho.form
        obtain ⟨evA, evC, rfl⟩ := HBK.out.he.form
        obtain ⟨qg, rfl⟩ := HBK.out.ha.some (by intro e; have := hq0 (by omega); rw [e] at this; exact absurd this (by simp))
        obtain ⟨og, rfl⟩ := HBK.out.ho.some (by intro e; rw [e] at hos; simp at hos)
        obtain ⟨bg, rfl⟩ := HBK.out.he.some (by intro e; rw [e] at hbs; simp at hbs)
        have hhl : hs.length = nh := by have := HBK.out.hl; rw [List.length_map, List.length_range] at this; exact this
        obtain ⟨hg, rfl⟩ := HBK.out.hh.some (by intro e; rw [e] at hhl; simp at hhl; omega)
        obtain ⟨nq, hnq⟩ : ∃ n, qs.length = n := ⟨_, rfl⟩
        rw [hnq, hhl, hos, hbs] at HBK
        try rw [hnq]
        try rw [hhl]
        try rw [hos]
        try rw [hbs]
        rw [hnq] at hqs hq0
        have HNQ := hide1 hnq
        have HHS := hide1 hhl
        have HOS : Hid (os.length = 12) := hos
        have HBS : Hid (bs.length = 4) := hbs
        have hq1 : nq ≤ 2000 := by omega
        clear hnq hhl hos hbs hqs hq0 hnh hnh0
        obtain ⟨s0, s1, s2, s3⟩ := (HBB.out.keep HKR.out).facts
        obtain ⟨p, hp⟩ : ∃ p, ps[0]? = some p := ⟨_, List.getElem?_eq_getElem (by have := HPS.out; omega)⟩
        obtain ⟨ra, rc, k0, k1, hrt, hrc⟩ := HPC.out wr HKR.out 0 p hp
        obtain ⟨pl, hpl⟩ : ∃ pl : Nat, (pl : Int) = p.1 := ⟨p.1.toNat, Int.toNat_of_nonneg (HCI.out.2.2.1 p (List.mem_of_getElem? hp)).1.1⟩
        have hpln : pl < nn := by have := (HCI.out.2.2.1 p (List.mem_of_getElem? hp)).1.2; omega
        have gpl : (pl : Int) < (nn : Int) := by omega
        have hplt : p.1.toNat = pl := by omega
        obtain ⟨f, hf⟩ : ∃ f, l3[pl]? = some f := ⟨_, List.getElem?_eq_getElem (by have := HUL.out.2.2.1; omega)⟩
        obtain ⟨nr, hnr⟩ : ∃ nr, p.2.length = nr := ⟨_, rfl⟩
        rw [hnr] at k1 hrt hrc
        rw [← hpl] at k0
        have HPP := hide1 hp
        have HFF : Hid (l3[p.1.toNat]? = some f) := by show _ = _; rw [hplt]; exact hf
        have HF0 := hide1 hf
        have HNR := hide1 hnr
        have HRT0 := hide1 hrt
        have HPB0 := hide1 (PBox.new wr (.int .i64 (pl : Int)) (.slice ra nr rc))
        have HKP0 : Hid (Kept wr (wr.alloc (.cells #[.int .i64 (pl : Int), .slice ra nr rc] 40))) := (Kept.refl wr).alloc _ _
        clear hp hf hnr hrt hpl hplt
        have k0' : wr.cell? ⟨cb, o2, none⟩ = some (.int .i64 (pl : Int)) := by have h := k0; rw [Nat.zero_mul, Nat.add_zero] at h; exact h
        have k1' : wr.cell? ⟨cb, o2 + 1, none⟩ = some (.slice ra nr rc) := by have h := k1; rw [Nat.zero_mul, Nat.add_zero] at h; exact h
        have hnp1 : (0 : Int) < (np : Int) := by omega
        go_upto_region 31 with fail
        clear k0 k1 k0' k1' s0 s1 s2 s3
        obtain ⟨WP, hWP⟩ : ∃ WP, wr.alloc (.cells #[.int .i64 (pl : Int), .slice ra nr rc] 40) = WP := ⟨_, rfl⟩
        rw [hWP] at HPB0 HKP0 ⊢
        clear hWP
        obtain ⟨pb, hpb⟩ : ∃ pb, wr.heap.size = pb := ⟨_, rfl⟩
        rw [hpb] at HPB0 ⊢
        clear hpb
        have HPB := HPB0
        have HKP := HKP0
        clear HPB0 HKP0
        have HKWP := hide1 (gtrans HKR.out HKP.out)
        have HRT := hide1 (HRT0.out.keep HKP.out)
        obtain ⟨fa, fc, hfq, hfr⟩ := HFC.out WP HKWP.out pl f HF0.out
        obtain ⟨fn, hfn⟩ : ∃ fn, f.length = fn := ⟨_, rfl⟩
        rw [hfn] at hfq hfr
        have HFQ := hide1 hfq
        have HFR := hide1 hfr
        have HFN := hide1 hfn
        clear hfq hfr hfn HRT0 HF0
        refine Code.wp_mono (Q := fun e a' w' => e = .normal ∧ ∃ (v17 : Value) (fb : Nat), BoT b0 wb (.slice (some ⟨qg, 0, none⟩) nq qc) (.slice (some ⟨hg, 0, none⟩) nh hc) (.slice (some ⟨og, 0, none⟩) (3 * 4) ovC) (.slice (some ⟨bg, 0, none⟩) 4 evC) 4 v17 fb a' ∧ Hid (IntsO w' WP.heap.size v17 (hl 0) ∧ FlBox w' fb 0 0 ∧ (hl 0).length ≤ 66 ∧ Kept WP w')) ?_ ?_
        rotate_left
        · refine wp_region_held_drew (S := fun X => Kept WP X) (by kernel_rfl) (drew_kept _) (fun hHeld => ?_)
          refine wpAnyH_take (i := 0) (v := .agg #[.slice al nl cl, .slice an nn cn, .int .i64 st, .slice (some ⟨cb, o2, none⟩) np cp]) rfl (by kernel_rfl) (by kernel_rfl) (by kernel_rfl) (fun _ _ _ h => nomatch h.1) (Or.inl ⟨by rfl, fun w' hSw => ?_⟩) (by with_reducible assumption) ?_
          · obtain ⟨s0, s1, s2, s3⟩ := (HBB.out.keep (gtrans HKWP.out hSw)).facts
            clear hSw
            go_simp
          try simp only [Act.put, List.getElem_toArray, List.getElem_cons_succ, List.getElem_cons_zero, List.setIfInBounds_toArray, List.set_cons_zero, List.set_cons_succ]
          refine wpAnyH_take (i := 1) (v := .pointer (some ⟨pb, 1, none⟩)) rfl (by kernel_rfl) (by kernel_rfl) (by kernel_rfl) (fun _ _ _ h => nomatch h.1) (Or.inl ⟨by rfl, fun w' hSw => ?_⟩) (by with_reducible assumption) ?_
          · skip
            clear hSw
            go_simp
          try simp only [Act.put, List.getElem_toArray, List.getElem_cons_succ, List.getElem_cons_zero, List.setIfInBounds_toArray, List.set_cons_zero, List.set_cons_succ]
          refine wpAnyH_take (i := 2) (v := .slice ra nr rc) rfl (by kernel_rfl) (by kernel_rfl) (by kernel_rfl) (fun _ _ _ h => nomatch h.1) (Or.inl ⟨by rfl, fun w' hSw => ?_⟩) (by with_reducible assumption) ?_
          · have q := (HPB.out.keep hSw).cells.2
            clear hSw
            go_simp
          try simp only [Act.put, List.getElem_toArray, List.getElem_cons_succ, List.getElem_cons_zero, List.setIfInBounds_toArray, List.set_cons_zero, List.set_cons_succ]
          refine wpAnyH_take (i := 3) (v := .pointer (some ⟨wb, 2, none⟩)) rfl (by kernel_rfl) (by kernel_rfl) (by kernel_rfl) (fun _ _ _ h => nomatch h.1) (Or.inl ⟨by rfl, fun w' hSw => ?_⟩) (by with_reducible assumption) ?_
          · skip
            clear hSw
            go_simp
          try simp only [Act.put, List.getElem_toArray, List.getElem_cons_succ, List.getElem_cons_zero, List.setIfInBounds_toArray, List.set_cons_zero, List.set_cons_succ]
          refine wpAnyH_take (i := 4) (v := .slice (some ⟨c3g, c3o, none⟩) nn t3) rfl (by kernel_rfl) (by kernel_rfl) (by kernel_rfl) (fun _ _ _ h => nomatch h.1) (Or.inl ⟨by rfl, fun w' hSw => ?_⟩) (by with_reducible assumption) ?_
          · obtain ⟨⟨e0, e1, e2, e3, e4⟩, -⟩ := (HWB.out.keep (gtrans HKWP.out hSw)).cells
            clear hSw
            go_simp
          try simp only [Act.put, List.getElem_toArray, List.getElem_cons_succ, List.getElem_cons_zero, List.setIfInBounds_toArray, List.set_cons_zero, List.set_cons_succ]
          refine wpAnyH_take (i := 5) (v := .pointer (some ⟨pb, 0, none⟩)) rfl (by kernel_rfl) (by kernel_rfl) (by kernel_rfl) (fun _ _ _ h => nomatch h.1) (Or.inl ⟨by rfl, fun w' hSw => ?_⟩) (by with_reducible assumption) ?_
          · skip
            clear hSw
            go_simp
          try simp only [Act.put, List.getElem_toArray, List.getElem_cons_succ, List.getElem_cons_zero, List.setIfInBounds_toArray, List.set_cons_zero, List.set_cons_succ]
          refine wpAnyH_take (i := 6) (v := .int .i64 (pl : Int)) rfl (by kernel_rfl) (by kernel_rfl) (by kernel_rfl) (fun _ _ _ h => nomatch h.1) (Or.inl ⟨by rfl, fun w' hSw => ?_⟩) (by with_reducible assumption) ?_
          · have q := (HPB.out.keep hSw).cells.1
            clear hSw
            go_simp
          try simp only [Act.put, List.getElem_toArray, List.getElem_cons_succ, List.getElem_cons_zero, List.setIfInBounds_toArray, List.set_cons_zero, List.set_cons_succ]
          refine wpAnyH_take (i := 7) (v := .pointer (some ⟨c3g, c3o + pl, none⟩)) rfl (by kernel_rfl) (by kernel_rfl) (by kernel_rfl) (fun _ _ _ h => nomatch h.1) (Or.inl ⟨by rfl, fun w' hSw => ?_⟩) (by with_reducible assumption) ?_
          · skip
            clear hSw
            go_simp
          try simp only [Act.put, List.getElem_toArray, List.getElem_cons_succ, List.getElem_cons_zero, List.setIfInBounds_toArray, List.set_cons_zero, List.set_cons_succ]
          refine wpAnyH_take (i := 8) (v := .slice fa fn fc) rfl (by kernel_rfl) (by kernel_rfl) (by kernel_rfl) (fun _ _ _ h => nomatch h.1) (Or.inl ⟨by rfl, fun w' hSw => ?_⟩) (by with_reducible assumption) ?_
          · have q := grown_cell hSw HFQ.out
            clear hSw
            go_simp
          try simp only [Act.put, List.getElem_toArray, List.getElem_cons_succ, List.getElem_cons_zero, List.setIfInBounds_toArray, List.set_cons_zero, List.set_cons_succ]
          refine wpAnyH_ready (rs := [9, 13]) (by kernel_rfl) (by simp) ?_
          refine AllReadyH.cons (i := 9) rfl (fun K hK => ?_) (AllReadyH.cons (i := 13) rfl (fun K hK => ?_) AllReadyH.nil)
          · go_simp
            go_wp2_with (go_at_call 9; refine (HHD.out _ 0 p f ra fa nr rc fn fc (gtrans HKWP.out (drew_kept WP)) HPP.out HFF.out HNR.out HFN.out (HRT.out.keep (drew_kept WP)) (HFR.out.keep (drew_kept WP))).mono ?_; rintro e w6 ⟨v17, rfl, h1, h2, h3⟩; have HO := hide1 h1; have HO66 := hide1 h2; have HKc := hide1 h3; have HK6 : Hid (Kept WP w6) := gtrans (drew_kept WP) h3; clear h1 h2 h3)
            refine hK.out _ _ HK6.out (fun hHeld2 => ?_)
            clear hK K hHeld
            have hHeld := hHeld2
            clear hHeld2
            try simp only [Act.put, List.getElem_toArray, List.getElem_cons_succ, List.getElem_cons_zero, List.setIfInBounds_toArray, List.set_cons_zero, List.set_cons_succ]
            refine wpAnyH_take (i := 10) (v := .tuple #[v17, .agg #[.int .i64 0, .int .i64 0, .string ⟨#[]⟩]]) rfl (by kernel_rfl) (by kernel_rfl) (by kernel_rfl) (fun _ _ _ h => nomatch h.1) (Or.inl ⟨by rfl, fun w' hSw => ?_⟩) (by with_reducible assumption) ?_
            · skip
              clear hSw
              go_simp
            try simp only [Act.put, List.getElem_toArray, List.getElem_cons_succ, List.getElem_cons_zero, List.setIfInBounds_toArray, List.set_cons_zero, List.set_cons_succ]
            refine wpAnyH_take (i := 11) (v := v17) rfl (by kernel_rfl) (by kernel_rfl) (by kernel_rfl) (fun _ _ _ h => nomatch h.1) (Or.inl ⟨by rfl, fun w' hSw => ?_⟩) (by with_reducible assumption) ?_
            · skip
              clear hSw
              go_simp
            try simp only [Act.put, List.getElem_toArray, List.getElem_cons_succ, List.getElem_cons_zero, List.setIfInBounds_toArray, List.set_cons_zero, List.set_cons_succ]
            refine wpAnyH_take (i := 12) (v := .agg #[.int .i64 0, .int .i64 0, .string ⟨#[]⟩]) rfl (by kernel_rfl) (by kernel_rfl) (by kernel_rfl) (fun _ _ _ h => nomatch h.1) (Or.inl ⟨by rfl, fun w' hSw => ?_⟩) (by with_reducible assumption) ?_
            · skip
              clear hSw
              go_simp
            try simp only [Act.put, List.getElem_toArray, List.getElem_cons_succ, List.getElem_cons_zero, List.setIfInBounds_toArray, List.set_cons_zero, List.set_cons_succ]
            refine wpAnyH_ready (rs := [13]) (by kernel_rfl) (by simp) ?_
            refine AllReadyH.cons (i := 13) rfl (fun K hK => ?_) AllReadyH.nil
            go_simp
            refine hK.out _ _ (gtrans HK6.out ((Kept.refl w6).alloc _ _)) (fun hHeld2 => ?_)
            clear hK K hHeld
            have hHeld := hHeld2
            clear hHeld2
            try simp only [Act.put, List.getElem_toArray, List.getElem_cons_succ, List.getElem_cons_zero, List.setIfInBounds_toArray, List.set_cons_zero, List.set_cons_succ]
            refine wpAnyH_take (i := 14) (v := v17) rfl (by kernel_rfl) (by kernel_rfl) (by kernel_rfl) (fun _ _ _ h => nomatch h.1) (Or.inl ⟨by rfl, fun w' hSw => ?_⟩) (by with_reducible assumption) ?_
            · skip
              clear hSw
              go_simp
            try simp only [Act.put, List.getElem_toArray, List.getElem_cons_succ, List.getElem_cons_zero, List.setIfInBounds_toArray, List.set_cons_zero, List.set_cons_succ]
            refine wpAnyH_ready (rs := [15]) (by kernel_rfl) (by simp) ?_
            refine AllReadyH.cons (i := 15) rfl (fun K hK => ?_) AllReadyH.nil
            go_simp
            have HKX : Hid (Kept w6 (w6.alloc (.cells #[.int .i64 0, .int .i64 0, .string ⟨#[]⟩] 44))) := (Kept.refl w6).alloc _ _
            refine hK.out _ _ (gtrans HK6.out HKX.out) (fun hHeld2 => ?_)
            clear hK K hHeld
            have hHeld := hHeld2
            clear hHeld2
            try simp only [Act.put, List.getElem_toArray, List.getElem_cons_succ, List.getElem_cons_zero, List.setIfInBounds_toArray, List.set_cons_zero, List.set_cons_succ]
            refine wpAnyH_done (by kernel_rfl) ?_ _
            exact ⟨rfl, v17, w6.heap.size, boT_of _ (by kernel_rfl), intsO_low (HO.out.keep HKX.out) (Nat.le_refl _), (fl_new w6 0 0).1, HO66.out, gtrans HK6.out HKX.out⟩
          · go_simp
            have HKZ : Hid (Kept WP (WP.alloc (.cells #[.int .i64 0, .int .i64 0, .string ⟨#[]⟩] 44)).drew) := gtrans ((Kept.refl WP).alloc _ _) (drew_kept _)
            have HFZ : Hid (FlBox (WP.alloc (.cells #[.int .i64 0, .int .i64 0, .string ⟨#[]⟩] 44)).drew WP.heap.size 0 0) := (FlBox.new WP).keep (drew_kept _)
            refine hK.out _ _ HKZ.out (fun hHeld2 => ?_)
            clear hK K hHeld
            have hHeld := hHeld2
            clear hHeld2
            try simp only [Act.put, List.getElem_toArray, List.getElem_cons_succ, List.getElem_cons_zero, List.setIfInBounds_toArray, List.set_cons_zero, List.set_cons_succ]
            refine wpAnyH_ready (rs := [9]) (by kernel_rfl) (by simp) ?_
            refine AllReadyH.cons (i := 9) rfl (fun K hK => ?_) AllReadyH.nil
            go_simp
            go_wp2_with (go_at_call 9; refine (HHD.out _ 0 p f ra fa nr rc fn fc (gtrans HKWP.out HKZ.out) HPP.out HFF.out HNR.out HFN.out (HRT.out.keep HKZ.out) (HFR.out.keep HKZ.out)).mono ?_; rintro e w6 ⟨v17, rfl, h1, h2, h3⟩; have HO := hide1 h1; have HO66 := hide1 h2; have HKc := hide1 h3; have HK6 : Hid (Kept WP w6) := gtrans HKZ.out h3; clear h1 h2 h3)
            refine hK.out _ _ HK6.out (fun hHeld2 => ?_)
            clear hK K hHeld
            have hHeld := hHeld2
            clear hHeld2
            try simp only [Act.put, List.getElem_toArray, List.getElem_cons_succ, List.getElem_cons_zero, List.setIfInBounds_toArray, List.set_cons_zero, List.set_cons_succ]
            refine wpAnyH_take (i := 10) (v := .tuple #[v17, .agg #[.int .i64 0, .int .i64 0, .string ⟨#[]⟩]]) rfl (by kernel_rfl) (by kernel_rfl) (by kernel_rfl) (fun _ _ _ h => nomatch h.1) (Or.inl ⟨by rfl, fun w' hSw => ?_⟩) (by with_reducible assumption) ?_
            · skip
              clear hSw
              go_simp
            try simp only [Act.put, List.getElem_toArray, List.getElem_cons_succ, List.getElem_cons_zero, List.setIfInBounds_toArray, List.set_cons_zero, List.set_cons_succ]
            refine wpAnyH_take (i := 11) (v := v17) rfl (by kernel_rfl) (by kernel_rfl) (by kernel_rfl) (fun _ _ _ h => nomatch h.1) (Or.inl ⟨by rfl, fun w' hSw => ?_⟩) (by with_reducible assumption) ?_
            · skip
              clear hSw
              go_simp
            try simp only [Act.put, List.getElem_toArray, List.getElem_cons_succ, List.getElem_cons_zero, List.setIfInBounds_toArray, List.set_cons_zero, List.set_cons_succ]
            refine wpAnyH_take (i := 12) (v := .agg #[.int .i64 0, .int .i64 0, .string ⟨#[]⟩]) rfl (by kernel_rfl) (by kernel_rfl) (by kernel_rfl) (fun _ _ _ h => nomatch h.1) (Or.inl ⟨by rfl, fun w' hSw => ?_⟩) (by with_reducible assumption) ?_
            · skip
              clear hSw
              go_simp
            try simp only [Act.put, List.getElem_toArray, List.getElem_cons_succ, List.getElem_cons_zero, List.setIfInBounds_toArray, List.set_cons_zero, List.set_cons_succ]
            refine wpAnyH_take (i := 14) (v := v17) rfl (by kernel_rfl) (by kernel_rfl) (by kernel_rfl) (fun _ _ _ h => nomatch h.1) (Or.inl ⟨by rfl, fun w' hSw => ?_⟩) (by with_reducible assumption) ?_
            · skip
              clear hSw
              go_simp
            try simp only [Act.put, List.getElem_toArray, List.getElem_cons_succ, List.getElem_cons_zero, List.setIfInBounds_toArray, List.set_cons_zero, List.set_cons_succ]
            refine wpAnyH_ready (rs := [15]) (by kernel_rfl) (by simp) ?_
            refine AllReadyH.cons (i := 15) rfl (fun K hK => ?_) AllReadyH.nil
            have HFA := hide1 (HFZ.out.keep HKc.out)
            obtain ⟨⟨x0, x1, x2'⟩, z0, z1, z2⟩ := HFA.out.cells
            go_simp
            clear x0 x1 x2' z0 z1 z2
            have HFX := hide1 (HFA.out.fill 0 0)
            have HKX : Hid (Kept WP (((w6.setCell ⟨WP.heap.size, 0, none⟩ (.int .i64 0)).setCell ⟨WP.heap.size, 1, none⟩ (.int .i64 0)).setCell ⟨WP.heap.size, 2, none⟩ (.string ⟨#[]⟩))) := keepB (keepB (keepB HK6.out (Nat.le_refl _)) (Nat.le_refl _)) (Nat.le_refl _)
            have HV3 : Hid (IntsO (((w6.setCell ⟨WP.heap.size, 0, none⟩ (.int .i64 0)).setCell ⟨WP.heap.size, 1, none⟩ (.int .i64 0)).setCell ⟨WP.heap.size, 2, none⟩ (.string ⟨#[]⟩)) (WP.alloc (.cells #[.int .i64 0, .int .i64 0, .string ⟨#[]⟩] 44)).drew.heap.size v17 (hl 0)) := owns_same HO.out (fun d hd => by have h1 := (HO.out.lt d hd).1; have h2 : WP.heap.size < (WP.alloc (.cells #[.int .i64 0, .int .i64 0, .string ⟨#[]⟩] 44)).drew.heap.size := HFZ.out.lt; exact (heap_set_ne (by omega)).trans ((heap_set_ne (by omega)).trans (heap_set_ne (by omega))))
            refine hK.out _ _ HKX.out (fun hHeld2 => ?_)
            clear hK K hHeld
            have hHeld := hHeld2
            clear hHeld2
            try simp only [Act.put, List.getElem_toArray, List.getElem_cons_succ, List.getElem_cons_zero, List.setIfInBounds_toArray, List.set_cons_zero, List.set_cons_succ]
            refine wpAnyH_done (by kernel_rfl) ?_ _
            exact ⟨rfl, v17, WP.heap.size, boT_of _ (by kernel_rfl), intsO_low HV3.out (Nat.le_of_lt HFZ.out.lt), HFX.out, HO66.out, HKX.out⟩
        rintro e a' w5 ⟨rfl, v17, fb, ⟨T3, rfl⟩, HI⟩
        have HKQ5 := hide1 (gtrans HKP.out HI.out.2.2.2)
        have HK5 := hide1 (gtrans HKR.out HKQ5.out)
        obtain ⟨la, lc, hv17⟩ := HI.out.1.form
        subst hv17
        obtain ⟨ln, hln⟩ : ∃ ln, (hl 0).length = ln := ⟨_, rfl⟩
        have HLN := hide1 hln
        rw [hln] at HI
        try rw [hln]
        clear hln HPB HRT HFQ HFR HFN HPP HFF HNR
        have hl66 : ln ≤ 66 := HI.out.2.2.1
        obtain ⟨s0, s1, s2, s3⟩ := (HBB.out.keep HK5.out).facts
        go_upto_region 33 with (go_at_call 5; refine (HTD.out w5 HK5.out).mono ?_; rintro e w6 ⟨g1, g2, g3, ay, x2, x3, x4, rfl, hz, hk6⟩; have HZ5 := hide1 hz; have HK6a := hide1 hk6; clear hz hk6)
        clear s0 s1 s2 s3
        have HLB0 := hide1 (TdBox.new w6 (.slice (some ⟨g1, 0, none⟩) nn nn) (.slice (some ⟨g2, 0, none⟩) nn nn) (.slice (some ⟨g3, 0, none⟩) nn nn) (.slice ay m m) fl)
        have HA6 : Hid (Kept w6 (w6.alloc (.cells #[.slice (some ⟨g1, 0, none⟩) nn nn, .slice (some ⟨g2, 0, none⟩) nn nn, .slice (some ⟨g3, 0, none⟩) nn nn, .slice ay m m, .bool fl] 30))) := (Kept.refl w6).alloc _ _
        obtain ⟨W6, hW6⟩ : ∃ W6, w6.alloc (.cells #[.slice (some ⟨g1, 0, none⟩) nn nn, .slice (some ⟨g2, 0, none⟩) nn nn, .slice (some ⟨g3, 0, none⟩) nn nn, .slice ay m m, .bool fl] 30) = W6 := ⟨_, rfl⟩
        rw [hW6] at HLB0 HA6 ⊢
        clear hW6
        have HLBH : Hid (wr.heap.size ≤ w6.heap.size) := (gtrans HKQ5.out HK6a.out).size
        obtain ⟨lb, hlb⟩ : ∃ lb, w6.heap.size = lb := ⟨_, rfl⟩
        rw [hlb] at HLB0 HLBH ⊢
        clear hlb
        have HK56 := hide1 (gtrans HK6a.out HA6.out)
        have HKr6 := hide1 (gtrans HKQ5.out HK56.out)
        have HK6 := hide1 (gtrans HK5.out HK56.out)
        have HZ6 := hide1 (HZ5.out.keep HA6.out)
        have HB6 := hide1 (HBK.out.keep HKr6.out)
        have HLB6 := HLB0
        have HV6 : Hid (LO inE W6 WP.heap.size (.slice la ln lc) (hl 0)) := ints_lo (HI.out.1.keep HK56.out)
        have HWPS : Hid (wr.heap.size ≤ WP.heap.size) := HKP.out.size
        have HZ56 : Hid (wr.heap.size ≤ w5.heap.size) := HKQ5.out.size
        have HEA : Hid (∀ x ∈ qs, ∃ l, LO inE W6 W1.heap.size (val x) l ∧ l.length ≤ 4096) := by have h := HB6.out.ea; rw [List.append_nil] at h; exact h
        obtain ⟨CA, hCA, hlA⟩ := bag_of HEA.out
        have HCA := hide1 hCA
        have HLA := hide1 hlA
        have HQL : Hid (LoneS qs) := by have h := HB6.out.la; rw [List.append_nil] at h; exact lone_of h
        have HOL : Hid (LoneS os) := by have h := HB6.out.lo; rw [List.append_nil] at h; exact lone_of h
        have HBL : Hid (LoneS bs) := by have h := HB6.out.lb; rw [List.append_nil] at h; exact lone_of h
        have HD2 : Hid (∀ x ∈ os, ∀ d, (val x).ownBlock = some d → (Value.slice (some ⟨hg, 0, none⟩) nh hc).ownBlock ≠ some d) := fun x hx d hd => (HB6.out.d2 x (by rw [List.append_nil]; exact hx) d hd).2
        obtain ⟨p0, p1, p2⟩ := (HI.out.2.1.keep HK56.out).cells.1
        clear hCA hlA HLB0 HZ5 HA6 HK6a HKQ5 HKP HI
        go_upto_region 35 with (first
          | (go_at_call 11; refine (grI_is qs qg nq qc W1.heap.size CA W6 HNQ.out (by omega) HB6.out.ha HCA.out HQL.out HLA.out).mono ?_; rintro e w7 ⟨rfl, hk7⟩; have HK7 := hide1 hk7; have HG7 := hide1 (HB6.out.grownA hk7); obtain ⟨CO, hCO, hlO⟩ := bag_of HG7.out.2.1; have HCO := hide1 hCO; have HLO := hide1 hlO; clear hk7 hCO hlO)
          | (go_at_call 12; refine (grL_is os og 12 ovC W1.heap.size CO w7 HOS.out (by omega) HG7.out.1 HCO.out HOL.out HLO.out).mono ?_; rintro e w8 ⟨rfl, hk8⟩; have HK8 := hide1 hk8; have HG8 := hide1 (grownO (w1 := W1) HG7.out.2.1 HD2.out HG7.out.2.2.1 HG7.out.2.2.2.1 HG7.out.2.2.2.2.1 HG7.out.2.2.2.2.2 hk8); obtain ⟨CB, hCB, hlB⟩ := bag_of HG8.out.2.1; have HCB := hide1 hCB; have HLBB := hide1 hlB; clear hk8 hCB hlB)
          | (go_at_call 13; refine (grB_is bs bg 4 evC W1.heap.size CB w8 HBS.out (by omega) HG8.out.1 HCB.out HBL.out HLBB.out).mono ?_; rintro e w9 ⟨rfl, hk9⟩; have HG9 := hide1 (grownB (w1 := W1) HG8.out.2.1 HG8.out.2.2.1 HG8.out.2.2.2 hk9); have HKG : Hid (KT (SB qs os bs) W6 w9) := (kt_SB1 HK7.out).trans ((kt_SB2 HK8.out).trans (kt_SB3 hk9)); have HK9 := hide1 (HBK.out.kt1 HK6.out HKG.out); have HZ9 : Hid (TdZ w5.heap.size es l2 l3 l4 (some ⟨g1, 0, none⟩, nn, nn) (some ⟨g2, 0, none⟩, nn, nn) (some ⟨g3, 0, none⟩, nn, nn) (ay, m, m) x2 x3 x4 w9) := HZ6.out.late HKG.out (fun d hd => by have q1 := (HBK.out.inb hd).2; have q2 := HZ56.out; omega); have HLB9 : Hid (TdBox w9 lb (.slice (some ⟨g1, 0, none⟩) nn nn) (.slice (some ⟨g2, 0, none⟩) nn nn) (.slice (some ⟨g3, 0, none⟩) nn nn) (.slice ay m m) fl) := (HBK.out.lateB HKG.out HLBH.out HLB6.out.lt).trans HLB6.out; have HV9 := hide1 (HBK.out.late HKG.out HWPS.out HV6.out); obtain ⟨⟨f0, f1, f2, f3, f4⟩, -⟩ := HLB9.out.cells; obtain ⟨⟨e0, e1, e2, e3, e4⟩, -⟩ := (HWB.out.keep HK9.out).cells; clear hk9)
          | (go_at_call 8; refine (HST.out w9 _ g1 g2 g3 ay x2 x3 x4 HK9.out HZ9.out).mono ?_; rintro e w10 ⟨rfl, hk10⟩; have HK10 := hide1 (gtrans HK9.out hk10); have HH10 := hide1 (HG9.out.1.keep hk10); obtain ⟨⟨ya, yn, yc⟩, hy⟩ : ∃ y, hs[0]? = some y := ⟨_, List.getElem?_eq_getElem (by have := HHS.out; omega)⟩; obtain ⟨hg', ehg, hyc⟩ := Sh.lo_sl HH10.out rfl rfl hy; injection ehg with ehg; injection ehg with ehg; subst ehg; have hyc' : w10.cell? ⟨hg, 0, none⟩ = some (.slice ya yn yc) := hyc; have hye := (HG9.out.2 0 _ _ hy (range_at hl hK3)).keep hk10; have HYE0 := hide1 hye; have HYN : Hid (yn = ln) := by { have h := lo_lens (show LO inE w10 _ (.slice ya yn yc) (hl 0) from hye); have := HLN.out; show _ = _; omega }; have HYE : Hid (IntsR w10 (.slice ya yn yc) (hl 0)) := (lo_ints hye).read (by have := HLN.out; omega); have HVE : Hid (IntsR w10 (.slice la ln lc) (hl 0)) := (lo_ints (HV9.out.keep hk10)).read (by have := HLN.out; omega); have hhc : (0 : Int) < (nh : Int) := (by omega); clear hk10 hyc hye hy)
          | (go_at_call 10; refine (sameIntsS_is la ya ln lc yn yc (hl 0) (hl 0) w10 HLN.out (by rw [HYN.out]; exact HLN.out) HVE.out HYE.out).mono ?_; rintro e w11 ⟨rfl, hk11⟩; rw [decide_eq_true rfl]; have HK11 := hide1 (gtrans HK10.out hk11); clear hk11))
        clear f0 f1 f2 f3 f4 e0 e1 e2 e3 e4 p0 p1 p2 hyc' hhc HZ9 HZ6 HZ56 HCA HLA HCO HLO HCB HLBB HG7 HG8 HG9 HK7 HK8 HKG HLB6 HLB9 HV6 HV9 HEA HQL HOL HBL HD2 HYE HVE HYE0 HYN HH10 HWPS HLBH HKr6 HK56 HB6 HK9 HK10
        obtain ⟨s0, s1, s2, s3⟩ := (HBB.out.keep HK11.out).facts
        go_upto_region 36 with (go_at_call 5; refine (HTD.out w11 HK11.out).mono ?_; rintro e w12 ⟨g4, g5, g6, az, y2, y3, y4, rfl, hz, hk12⟩; have HZ12 := hide1 hz; have HK12a := hide1 hk12; clear hz hk12)
        clear s0 s1 s2 s3
        have HLC0 := hide1 (TdBox.new w12 (.slice (some ⟨g4, 0, none⟩) nn nn) (.slice (some ⟨g5, 0, none⟩) nn nn) (.slice (some ⟨g6, 0, none⟩) nn nn) (.slice az m m) fl)
        have HA12 : Hid (Kept w12 (w12.alloc (.cells #[.slice (some ⟨g4, 0, none⟩) nn nn, .slice (some ⟨g5, 0, none⟩) nn nn, .slice (some ⟨g6, 0, none⟩) nn nn, .slice az m m, .bool fl] 30))) := (Kept.refl w12).alloc _ _
        obtain ⟨W12, hW12⟩ : ∃ W12, w12.alloc (.cells #[.slice (some ⟨g4, 0, none⟩) nn nn, .slice (some ⟨g5, 0, none⟩) nn nn, .slice (some ⟨g6, 0, none⟩) nn nn, .slice az m m, .bool fl] 30) = W12 := ⟨_, rfl⟩
        rw [hW12] at HLC0 HA12 ⊢
        clear hW12
        obtain ⟨lcb, hlcb⟩ : ∃ lcb, w12.heap.size = lcb := ⟨_, rfl⟩
        rw [hlcb] at HLC0 ⊢
        clear hlcb
        have HK12 := hide1 (gtrans HK11.out (gtrans HK12a.out HA12.out))
        have HZ13 := hide1 (HZ12.out.keep HA12.out)
        obtain ⟨⟨f0, f1, f2, f3, f4⟩, -⟩ := HLC0.out.cells
        obtain ⟨⟨e0, e1, e2, e3, e4⟩, -⟩ := (HWB.out.keep HK12.out).cells
        go_upto_region 38 with (go_at_call 8; refine (HST.out W12 _ g4 g5 g6 az y2 y3 y4 HK12.out HZ13.out).mono ?_; rintro e w13 ⟨rfl, hk13⟩; have HK13 := hide1 (gtrans HK12.out hk13); clear hk13)
        clear f0 f1 f2 f3 f4 e0 e1 e2 e3 e4 HZ13 HZ12 HLC0 HA12 HK12a
        have HW13 := hide1 (gtrans HKW.out HK13.out)
        obtain ⟨s0, s1, s2, s3⟩ := (HBB.out.keep HK13.out).facts
        go_upto_region 39 with (go_at_call 14; refine (lend2_is k lex names ps al an _ nl cl nn cn np cp st w13 HLEN.out HNAM.out HPS.out HZZ.out (HL.out.keep HW13.out) (HN.out.keep HW13.out) (HP.out.keep HW13.out)).mono ?_; rintro e w14 ⟨g, gn, gq, rfl, hlt, hk14, ⟨eb, hlz⟩, hgg, hgw, hrg⟩; have HLT1 := hide1 hlt; have HK14 := hide1 hk14; have HLZ1 := hide1 hlz; have HGG := hide1 hgg; have HGW := hide1 hgw; have HRG1 := hide1 hrg; clear hlt hk14 hlz hgg hgw hrg)
        clear s0 s1 s2 s3
        have HSB0 := hide1 (SBox.new w14 (.slice (some ⟨g, 0, none⟩) nl (nl + 1)) (.slice (some ⟨gn, 0, none⟩) nn (nn + 1)) (.int .i64 st) (.slice (some ⟨gq, 0, none⟩) np (np + 1)))
        have HA14 : Hid (Kept w14 (w14.alloc (.cells #[.slice (some ⟨g, 0, none⟩) nl (nl + 1), .slice (some ⟨gn, 0, none⟩) nn (nn + 1), .int .i64 st, .slice (some ⟨gq, 0, none⟩) np (np + 1)] 26))) := (Kept.refl w14).alloc _ _
        obtain ⟨W14, hW14⟩ : ∃ W14, w14.alloc (.cells #[.slice (some ⟨g, 0, none⟩) nl (nl + 1), .slice (some ⟨gn, 0, none⟩) nn (nn + 1), .int .i64 st, .slice (some ⟨gq, 0, none⟩) np (np + 1)] 26) = W14 := ⟨_, rfl⟩
        rw [hW14] at HSB0 HA14 ⊢
        clear hW14
        have HMB : Hid (gq < w14.heap.size) := HRG1.out.lt
        obtain ⟨mb, hmb⟩ : ∃ mb, w14.heap.size = mb := ⟨_, rfl⟩
        rw [hmb] at HSB0 HMB ⊢
        clear hmb
        have HLT := hide1 (HLT1.out.keep HA14.out)
        have HLZ := hide1 (HLZ1.out.keep HA14.out)
        have HRG := hide1 (HRG1.out.keep HA14.out)
        have HSB := HSB0
        have HW14 := hide1 (gtrans HW13.out (gtrans HK14.out HA14.out))
        clear HLT1 HLZ1 HRG1 HSB0 HK14 HA14
        obtain ⟨s0, s1, s2, s3⟩ := HSB.out.facts
        go_upto_region 40 with (go_at_call 5; refine (toldOk_is k lex ps (some ⟨g, 0, none⟩) (some ⟨gn, 0, none⟩) (some ⟨gq, 0, none⟩) nl (nl + 1) nn (nn + 1) np (np + 1) st es l2 l3 l4 fl m W14 (by omega) HLEN.out HPS.out (HLT.out.lexAt HLEN.out (by omega) HLS.out) (HLT.out.prodsAt HPS.out (by omega) (fun p hp => by have := HROW.out p hp; omega)) (HT.out.keep HW14.out) HQ0.out HU.out HM4.out).mono ?_; rintro e w15 ⟨g7, g8, g9, aw, z2', z3', z4', rfl, -, hk15⟩; have HK15 := hide1 hk15; clear hk15)
        clear s0 s1 s2 s3
        have HLT5 := hide1 (HLT.out.keep HK15.out)
        have HLZ5 := hide1 (HLZ.out.keep HK15.out)
        have HRG5 := hide1 (HRG.out.keep HK15.out)
        have HSB5 := hide1 (HSB.out.keep HK15.out)
        have HW15 := hide1 (gtrans HW14.out HK15.out)
        clear HLT HLZ HRG HSB
        obtain ⟨p0, hp0'⟩ : ∃ p, ps[0]? = some p := ⟨_, List.getElem?_eq_getElem (by have := HPS.out; omega)⟩
        obtain ⟨r0, y0, y1, yr, -⟩ := HLT5.out.prd 0 p0 (by have := HPS.out; omega) hp0'
        obtain ⟨n0, hn0'⟩ : ∃ n, p0.2.length = n := ⟨_, rfl⟩
        rw [hn0'] at y1
        have y1' : w15.cell? ⟨gq, 1, none⟩ = some (.slice (some ⟨r0, 0, none⟩) n0 (n0 + 1)) := y1
        have yf := (HRG5.out.cell (k := 1) (by omega)).2
        have HP0 := hide1 hp0'
        have hcut : ∀ w', (Instr.sliceAt 38 (.slice (some ⟨r0, 0, none⟩) n0 (n0 + 1)) none (some (.int .i64 0)) none).run Tryd.prog w' = .ok (.slice (some ⟨r0, 0, none⟩) 0 (n0 + 1)) w' := fun w' => cut_run syE n0 (.inr ⟨_, _, rfl⟩) (Nat.zero_le _) w'
        have hnp1 : (0 : Int) < (np : Int) := by omega
        clear y0 y1 yr hp0' hn0'
        obtain ⟨s0, s1, s2, s3⟩ := HSB5.out.facts
        go_upto_region 41 with fail
        go_region
        clear s0 s1 s2 s3 y1' yf hcut
        have HPX := hide1 (prods_cut (r := r0) (c := n0 + 1) (nr := 0) HLT5.out.prd HRG5.out HPS.out (by omega) (fun p hp => by have := HROW.out p hp; omega) HP0.out)
        have HLXX : Hid (LexAt (w15.setCell ⟨gq, 1, none⟩ (.slice (some ⟨r0, 0, none⟩) 0 (n0 + 1))) k (.slice (some ⟨g, 0, none⟩) nl (nl + 1)) lex) := (HLZ5.out.set (.inr rfl) (by have := HGG.out.1; omega)).lexAt HLEN.out (by omega) (by rw [World.size_setCell]; exact Nat.lt_trans HGG.out.1 HRG5.out.lt) HLS.out
        have HNXX : Hid (NamesAt (w15.setCell ⟨gq, 1, none⟩ (.slice (some ⟨r0, 0, none⟩) 0 (n0 + 1))) (.slice (some ⟨gn, 0, none⟩) nn (nn + 1)) names) := els_slice (HLT5.out.nam.other (by have := HGG.out.2; omega)) HNAM.out (by omega) (by omega) (by rw [World.size_setCell]; exact Nat.lt_trans HGG.out.2 HRG5.out.lt)
        have HSXX : Hid (SBox (w15.setCell ⟨gq, 1, none⟩ (.slice (some ⟨r0, 0, none⟩) 0 (n0 + 1))) mb (.slice (some ⟨g, 0, none⟩) nl (nl + 1)) (.slice (some ⟨gn, 0, none⟩) nn (nn + 1)) (.int .i64 st) (.slice (some ⟨gq, 0, none⟩) np (np + 1))) := SBox.but HSB5.out (but_set (but_refl gq w15) _ _) (by have := HMB.out; omega)
        have HWXX : Hid (Kept w (w15.setCell ⟨gq, 1, none⟩ (.slice (some ⟨r0, 0, none⟩) 0 (n0 + 1)))) := keepB HW15.out (Nat.le_trans HW13.out.size HGW.out)
        obtain ⟨ps2, hps2⟩ : ∃ q, ps.set 0 (p0.1, []) = q := ⟨_, rfl⟩
        have HPS2 : Hid (ps2.length = np) := by show _ = _; rw [← hps2, List.length_set]; exact HPS.out
        have HSZ2 : Hid (∀ p ∈ ps2, p.2.length * 16 ≤ 140737488351232) := by rw [← hps2]; exact set_sized HZZ.out.2.2.2
        rw [hps2] at HPX
        obtain ⟨WX, hWX⟩ : ∃ WX, (w15.setCell ⟨gq, 1, none⟩ (.slice (some ⟨r0, 0, none⟩) 0 (n0 + 1))).drew = WX := ⟨_, rfl⟩
        have HPZ : Hid (ProdsAt WX (.slice (some ⟨gq, 0, none⟩) np (np + 1)) ps2) := by rw [← hWX]; exact HPX.out.keep (drew_kept _)
        have HLZZ : Hid (LexAt WX k (.slice (some ⟨g, 0, none⟩) nl (nl + 1)) lex) := by rw [← hWX]; exact HLXX.out.keep (drew_kept _)
        have HNZ : Hid (NamesAt WX (.slice (some ⟨gn, 0, none⟩) nn (nn + 1)) names) := by rw [← hWX]; exact HNXX.out.keep (drew_kept _)
        have HSZ : Hid (SBox WX mb (.slice (some ⟨g, 0, none⟩) nl (nl + 1)) (.slice (some ⟨gn, 0, none⟩) nn (nn + 1)) (.int .i64 st) (.slice (some ⟨gq, 0, none⟩) np (np + 1))) := by rw [← hWX]; exact HSXX.out.keep (drew_kept _)
        have HWX : Hid (Kept w WX) := by rw [← hWX]; exact gtrans HWXX.out (drew_kept _)
        rw [hWX]
        clear hWX hps2 HPX HLXX HNXX HSXX HWXX HLT5 HLZ5 HRG5 HSB5
        have HTQ : Hid (∀ (w' : World) (g gn gq : Nat), Kept w w' → LexAt w' k (.slice (some ⟨g, 0, none⟩) nl (nl + 1)) lex → ProdsAt w' (.slice (some ⟨gq, 0, none⟩) np (np + 1)) ps2 → Calls Tryd.prog 5 #[.agg #[.slice (some ⟨g, 0, none⟩) nl (nl + 1), .slice (some ⟨gn, 0, none⟩) nn (nn + 1), .int .i64 st, .slice (some ⟨gq, 0, none⟩) np (np + 1)]] w' fun e w2 => ∃ (a1 a2 a3 a4 : Option Addr) (n m : Nat) (ok fl : Bool) (es : List Bool) (l2 l3 l4 : List (List Int)), e = .returned (.tuple #[.agg #[.slice a1 n n, .slice a2 n n, .slice a3 n n, .slice a4 m m, .bool fl], .bool ok, .bool true]) ∧ TdQ lex ps2 nn nl st ok n m es l2 l3 l4 fl ∧ (BoolsR w2 (.slice a1 n n) es ∧ RowsR w2 (.slice a2 n n) l2 ∧ RowsR w2 (.slice a3 n n) l3 ∧ RowsR w2 (.slice a4 m m) l4) ∧ Kept w' w2) := fun w' g gn gq hk' h1 h2 => toldQ_is k lex ps2 (some ⟨g, 0, none⟩) (some ⟨gn, 0, none⟩) (some ⟨gq, 0, none⟩) nl (nl + 1) nn (nn + 1) np (np + 1) st w' (by omega) HLEN.out HPS2.out h1 h2 (HT.out.keep hk')
        have HLN2 : Hid (∀ w', Kept WX w' → Calls Tryd.prog 14 #[.agg #[.slice (some ⟨g, 0, none⟩) nl (nl + 1), .slice (some ⟨gn, 0, none⟩) nn (nn + 1), .int .i64 st, .slice (some ⟨gq, 0, none⟩) np (np + 1)]] w' (LentR lex names ps2 nl nn np st w')) := fun w' hk' => lend_is k lex names ps2 (some ⟨g, 0, none⟩) (some ⟨gn, 0, none⟩) (some ⟨gq, 0, none⟩) nl (nl + 1) nn (nn + 1) np (np + 1) st w' HLEN.out HNAM.out HPS2.out ⟨HZZ.out.1, HZZ.out.2.1, HZZ.out.2.2.1, HSZ2.out⟩ (HLZZ.out.keep hk') (HNZ.out.keep hk') (HPZ.out.keep hk')
        obtain ⟨s0, s1, s2, s3⟩ := HSZ.out.facts
        go_upto_region 43 with (go_at_call 5; refine (HTQ.out WX g gn gq HWX.out HLZZ.out HPZ.out).mono ?_; rintro e w16 ⟨a1, a2, a3, a4, n, m', ok, fl', es', l2', l3', l4', rfl, hq1', hr1', hk16⟩; have HTX := hide1 hq1'; have HRX := hide1 hr1'; have HK16 := hide1 hk16; clear hq1' hr1' hk16)
        clear s0 s1 s2 s3
        have HXB0 := hide1 (TdBox.new w16 (.slice a1 n n) (.slice a2 n n) (.slice a3 n n) (.slice a4 m' m') fl')
        have HA16 : Hid (Kept w16 (w16.alloc (.cells #[.slice a1 n n, .slice a2 n n, .slice a3 n n, .slice a4 m' m', .bool fl'] 30))) := (Kept.refl w16).alloc _ _
        obtain ⟨W16, hW16⟩ : ∃ W16, w16.alloc (.cells #[.slice a1 n n, .slice a2 n n, .slice a3 n n, .slice a4 m' m', .bool fl'] 30) = W16 := ⟨_, rfl⟩
        rw [hW16] at HXB0 HA16 ⊢
        clear hW16
        obtain ⟨xb, hxb⟩ : ∃ xb, w16.heap.size = xb := ⟨_, rfl⟩
        rw [hxb] at HXB0 ⊢
        clear hxb
        have HK16X := hide1 (gtrans HK16.out HA16.out)
        obtain ⟨s0, s1, s2, s3⟩ := (HSZ.out.keep HK16X.out).facts
        go_upto_region 44 with (first
          | (go_at_call 14; refine (HLN2.out W16 HK16X.out).mono ?_; rintro e w17 ⟨h, hn, hq, rfl, hlt, hk17⟩; have HLT7 := hide1 hlt; have HK17 := hide1 hk17; have HKX17 := hide1 (gtrans HK16X.out hk17); clear hlt hk17)
          | (go_at_call 5; refine (HTQ.out w17 h hn hq (gtrans HWX.out HKX17.out) (HLT7.out.lexAt HLEN.out (by omega) HLS.out) (HLT7.out.prodsAt HPS2.out (by omega) (fun p hp => by have := HSZ2.out p hp; omega))).mono ?_; rintro e w18 ⟨b1, b2, b3, b4, n', m'', ok', fl'', es'', l2'', l3'', l4'', rfl, hq2', hr2', hk18⟩; obtain ⟨rfl, rfl, rfl, rfl, rfl, rfl, rfl, rfl⟩ := hq2'.one HTX.out; have HRY := hide1 hr2'; have HK18 := hide1 hk18; clear hq2' hr2' hk18))
        clear s0 s1 s2 s3
        obtain ⟨⟨xe, xa⟩, hcq, -⟩ := HTX.out
        have HCQ := hide1 hcq
        clear hcq
        have HYB0 := hide1 (TdBox.new w18 (.slice b1 n' n') (.slice b2 n' n') (.slice b3 n' n') (.slice b4 m'' m'') fl'')
        have HA18 : Hid (Kept w18 (w18.alloc (.cells #[.slice b1 n' n', .slice b2 n' n', .slice b3 n' n', .slice b4 m'' m'', .bool fl''] 30))) := (Kept.refl w18).alloc _ _
        obtain ⟨W18, hW18⟩ : ∃ W18, w18.alloc (.cells #[.slice b1 n' n', .slice b2 n' n', .slice b3 n' n', .slice b4 m'' m'', .bool fl''] 30) = W18 := ⟨_, rfl⟩
        rw [hW18] at HYB0 HA18 ⊢
        clear hW18
        obtain ⟨yb, hyb⟩ : ∃ yb, w18.heap.size = yb := ⟨_, rfl⟩
        rw [hyb] at HYB0 ⊢
        clear hyb
        have HYB := HYB0
        have HX18 : Hid (Kept W16 W18) := gtrans HK17.out (gtrans HK18.out HA18.out)
        have HKX18 : Hid (Kept WX W18) := gtrans HK16X.out HX18.out
        have HXB := hide1 (HXB0.out.keep HX18.out)
        have HTL := hide1 HTX.out.lens
        have HSM : Hid (∀ w', Kept W18 w' → Calls Tryd.prog 8 #[.agg #[.slice a1 n' n', .slice a2 n' n', .slice a3 n' n', .slice a4 m'' m'', .bool fl''], .agg #[.slice b1 n' n', .slice b2 n' n', .slice b3 n' n', .slice b4 m'' m'', .bool fl'']] w' fun e w2 => e = .returned (.bool true) ∧ Kept w' w2) := fun w' hk' => by
          have kx := gtrans HA16.out (gtrans HX18.out hk')
          have ky := gtrans HA18.out hk'
          exact sameToldG_is a1 a2 a3 a4 b1 b2 b3 b4 n' n' n' m'' n' n' n' m'' n' n' n' m'' n' n' n' m'' fl'' es'' l2'' l3'' l4'' w' HTL.out.1 HTL.out.2.1 HTL.out.2.2.1 HTL.out.2.2.2 HTL.out.1 HTL.out.2.1 HTL.out.2.2.1 HTL.out.2.2.2 (HRX.out.1.keep kx) (HRX.out.2.1.keep kx) (HRX.out.2.2.1.keep kx) (HRX.out.2.2.2.keep kx) (HRY.out.1.keep ky) (HRY.out.2.1.keep ky) (HRY.out.2.2.1.keep ky) (HRY.out.2.2.2.keep ky)
        have HCK : Hid (∀ (w' : World) (g gn gq : Nat), LexAt w' k (.slice (some ⟨g, 0, none⟩) nl (nl + 1)) lex → ProdsAt w' (.slice (some ⟨gq, 0, none⟩) np (np + 1)) ps2 → Calls Tryd.prog 15 #[.agg #[.slice (some ⟨g, 0, none⟩) nl (nl + 1), .slice (some ⟨gn, 0, none⟩) nn (nn + 1), .int .i64 st, .slice (some ⟨gq, 0, none⟩) np (np + 1)]] w' fun e w2 => e = .returned (.agg #[.int .i64 xe, .int .i64 xa, .string ⟨#[]⟩]) ∧ Kept w' w2) := fun w' g gn gq h1 h2 => checkC_is k lex ps2 (some ⟨g, 0, none⟩) (some ⟨gn, 0, none⟩) (some ⟨gq, 0, none⟩) nl (nl + 1) nn (nn + 1) np (np + 1) st xe xa w' (by omega) HLEN.out HPS2.out h1 h2 HCQ.out
        clear HYB0 HXB0 HRX HRY HK16 HA16 HK17 HKX17 HK18 HA18 HLT7 HX18 HTX HTL HTQ HCQ HK16X
        refine Code.wp_mono (Q := fun e a' w' => e = .normal ∧ BoR a' ∧ Hid (Kept W18 w')) ?_ ?_
        rotate_left
        · refine wp_region_held_drew (S := fun X => Kept W18 X) (by kernel_rfl) (drew_kept _) (fun hHeld => ?_)
          refine wpAnyH_take (i := 0) (v := (.bool ok')) rfl (by kernel_rfl) (by kernel_rfl) (by kernel_rfl) (fun _ _ _ h => nomatch h.1) (Or.inl ⟨by rfl, fun w' hSw => ?_⟩) (by with_reducible assumption) ?_
          · skip
            clear hSw
            go_simp
          try simp only [Act.put, List.getElem_toArray, List.getElem_cons_succ, List.getElem_cons_zero, List.setIfInBounds_toArray, List.set_cons_zero, List.set_cons_succ]
          refine wpAnyH_take (i := 1) (v := (.bool ok')) rfl (by kernel_rfl) (by kernel_rfl) (by kernel_rfl) (fun _ _ _ h => nomatch h.1) (Or.inl ⟨by rfl, fun w' hSw => ?_⟩) (by with_reducible assumption) ?_
          · skip
            clear hSw
            go_simp
          try simp only [Act.put, List.getElem_toArray, List.getElem_cons_succ, List.getElem_cons_zero, List.setIfInBounds_toArray, List.set_cons_zero, List.set_cons_succ]
          refine wpAnyH_take (i := 2) (v := (.bool true)) rfl (by kernel_rfl) (by kernel_rfl) (by kernel_rfl) (fun _ _ _ h => nomatch h.1) (Or.inl ⟨by rfl, fun w' hSw => ?_⟩) (by with_reducible assumption) ?_
          · skip
            clear hSw
            go_simp
          try simp only [Act.put, List.getElem_toArray, List.getElem_cons_succ, List.getElem_cons_zero, List.setIfInBounds_toArray, List.set_cons_zero, List.set_cons_succ]
          refine wpAnyH_take (i := 3) (v := (.bool true)) rfl (by kernel_rfl) (by kernel_rfl) (by kernel_rfl) (fun _ _ _ h => nomatch h.1) (Or.inl ⟨by rfl, fun w' hSw => ?_⟩) (by with_reducible assumption) ?_
          · skip
            clear hSw
            go_simp
          try simp only [Act.put, List.getElem_toArray, List.getElem_cons_succ, List.getElem_cons_zero, List.setIfInBounds_toArray, List.set_cons_zero, List.set_cons_succ]
          refine wpAnyH_take (i := 4) (v := (.bool true)) rfl (by kernel_rfl) (by kernel_rfl) (by kernel_rfl) (fun _ _ _ h => nomatch h.1) (Or.inl ⟨by rfl, fun w' hSw => ?_⟩) (by with_reducible assumption) ?_
          · skip
            clear hSw
            go_simp
          try simp only [Act.put, List.getElem_toArray, List.getElem_cons_succ, List.getElem_cons_zero, List.setIfInBounds_toArray, List.set_cons_zero, List.set_cons_succ]
          refine wpAnyH_take (i := 5) (v := (.bool true)) rfl (by kernel_rfl) (by kernel_rfl) (by kernel_rfl) (fun _ _ _ h => nomatch h.1) (Or.inl ⟨by rfl, fun w' hSw => ?_⟩) (by with_reducible assumption) ?_
          · skip
            clear hSw
            go_simp
          try simp only [Act.put, List.getElem_toArray, List.getElem_cons_succ, List.getElem_cons_zero, List.setIfInBounds_toArray, List.set_cons_zero, List.set_cons_succ]
          refine wpAnyH_take (i := 6) (v := (.bool true)) rfl (by kernel_rfl) (by kernel_rfl) (by kernel_rfl) (fun _ _ _ h => nomatch h.1) (Or.inl ⟨by rfl, fun w' hSw => ?_⟩) (by with_reducible assumption) ?_
          · skip
            clear hSw
            go_simp
          try simp only [Act.put, List.getElem_toArray, List.getElem_cons_succ, List.getElem_cons_zero, List.setIfInBounds_toArray, List.set_cons_zero, List.set_cons_succ]
          refine wpAnyH_take (i := 7) (v := (.bool true)) rfl (by kernel_rfl) (by kernel_rfl) (by kernel_rfl) (fun _ _ _ h => nomatch h.1) (Or.inl ⟨by rfl, fun w' hSw => ?_⟩) (by with_reducible assumption) ?_
          · skip
            clear hSw
            go_simp
          try simp only [Act.put, List.getElem_toArray, List.getElem_cons_succ, List.getElem_cons_zero, List.setIfInBounds_toArray, List.set_cons_zero, List.set_cons_succ]
          refine wpAnyH_take (i := 8) (v := (.bool true)) rfl (by kernel_rfl) (by kernel_rfl) (by kernel_rfl) (fun _ _ _ h => nomatch h.1) (Or.inl ⟨by rfl, fun w' hSw => ?_⟩) (by with_reducible assumption) ?_
          · skip
            clear hSw
            go_simp
          try simp only [Act.put, List.getElem_toArray, List.getElem_cons_succ, List.getElem_cons_zero, List.setIfInBounds_toArray, List.set_cons_zero, List.set_cons_succ]
          refine wpAnyH_take (i := 9) (v := (.bool true)) rfl (by kernel_rfl) (by kernel_rfl) (by kernel_rfl) (fun _ _ _ h => nomatch h.1) (Or.inl ⟨by rfl, fun w' hSw => ?_⟩) (by with_reducible assumption) ?_
          · skip
            clear hSw
            go_simp
          try simp only [Act.put, List.getElem_toArray, List.getElem_cons_succ, List.getElem_cons_zero, List.setIfInBounds_toArray, List.set_cons_zero, List.set_cons_succ]
          refine wpAnyH_take (i := 10) (v := (.agg #[.slice (some ⟨g, 0, none⟩) nl (nl + 1), .slice (some ⟨gn, 0, none⟩) nn (nn + 1), .int .i64 st, .slice (some ⟨gq, 0, none⟩) np (np + 1)])) rfl (by kernel_rfl) (by kernel_rfl) (by kernel_rfl) (fun _ _ _ h => nomatch h.1) (Or.inl ⟨by rfl, fun w' hSw => ?_⟩) (by with_reducible assumption) ?_
          · obtain ⟨s0, s1, s2, s3⟩ := (HSZ.out.keep (gtrans HKX18.out hSw)).facts
            clear hSw
            go_simp
          try simp only [Act.put, List.getElem_toArray, List.getElem_cons_succ, List.getElem_cons_zero, List.setIfInBounds_toArray, List.set_cons_zero, List.set_cons_succ]
          refine wpAnyH_take (i := 12) (v := (.agg #[.slice (some ⟨g, 0, none⟩) nl (nl + 1), .slice (some ⟨gn, 0, none⟩) nn (nn + 1), .int .i64 st, .slice (some ⟨gq, 0, none⟩) np (np + 1)])) rfl (by kernel_rfl) (by kernel_rfl) (by kernel_rfl) (fun _ _ _ h => nomatch h.1) (Or.inl ⟨by rfl, fun w' hSw => ?_⟩) (by with_reducible assumption) ?_
          · obtain ⟨s0, s1, s2, s3⟩ := (HSZ.out.keep (gtrans HKX18.out hSw)).facts
            clear hSw
            go_simp
          try simp only [Act.put, List.getElem_toArray, List.getElem_cons_succ, List.getElem_cons_zero, List.setIfInBounds_toArray, List.set_cons_zero, List.set_cons_succ]
          refine wpAnyH_ready (rs := [11]) (by kernel_rfl) (by simp) ?_
          refine AllReadyH.cons (i := 11) rfl (fun K hK => ?_) AllReadyH.nil
          go_simp
          go_wp2_with (go_at_call 15; refine (HCK.out _ g gn gq (HLZZ.out.keep (gtrans HKX18.out (drew_kept _))) (HPZ.out.keep (gtrans HKX18.out (drew_kept _)))).mono ?_; rintro e w19 ⟨rfl, hk19⟩; have HK19 : Hid (Kept W18 w19) := gtrans (drew_kept _) hk19; clear hk19)
          refine hK.out _ _ HK19.out (fun hHeld2 => ?_)
          clear hK K hHeld
          have hHeld := hHeld2
          clear hHeld2
          try simp only [Act.put, List.getElem_toArray, List.getElem_cons_succ, List.getElem_cons_zero, List.setIfInBounds_toArray, List.set_cons_zero, List.set_cons_succ]
          refine wpAnyH_ready (rs := [13]) (by kernel_rfl) (by simp) ?_
          refine AllReadyH.cons (i := 13) rfl (fun K hK => ?_) AllReadyH.nil
          go_simp
          go_wp2_with (go_at_call 14; refine (HLN2.out _ (gtrans HKX18.out HK19.out)).mono ?_; rintro e w20 ⟨h, hn, hq, rfl, hlt, hk20⟩; have HLTE := hide1 hlt; have HK20 : Hid (Kept W18 w20) := gtrans HK19.out hk20; clear hlt hk20)
          refine hK.out _ _ HK20.out (fun hHeld2 => ?_)
          clear hK K hHeld
          have hHeld := hHeld2
          clear hHeld2
          try simp only [Act.put, List.getElem_toArray, List.getElem_cons_succ, List.getElem_cons_zero, List.setIfInBounds_toArray, List.set_cons_zero, List.set_cons_succ]
          refine wpAnyH_ready (rs := [14]) (by kernel_rfl) (by simp) ?_
          refine AllReadyH.cons (i := 14) rfl (fun K hK => ?_) AllReadyH.nil
          go_simp
          go_wp2_with (go_at_call 15; refine (HCK.out _ h hn hq (HLTE.out.lexAt HLEN.out (by omega) HLS.out) (HLTE.out.prodsAt HPS2.out (by omega) (fun p hp => by have := HSZ2.out p hp; omega))).mono ?_; rintro e w21 ⟨rfl, hk21⟩; have HK21 : Hid (Kept W18 w21) := gtrans HK20.out hk21; clear hk21)
          refine hK.out _ _ HK21.out (fun hHeld2 => ?_)
          clear hK K hHeld
          have hHeld := hHeld2
          clear hHeld2
          try simp only [Act.put, List.getElem_toArray, List.getElem_cons_succ, List.getElem_cons_zero, List.setIfInBounds_toArray, List.set_cons_zero, List.set_cons_succ]
          refine wpAnyH_take (i := 15) (v := (.bool true)) rfl (by kernel_rfl) (by kernel_rfl) (by kernel_rfl) (fun _ _ _ h => nomatch h.1) (Or.inl ⟨by rfl, fun w' hSw => ?_⟩) (by with_reducible assumption) ?_
          · skip
            clear hSw
            go_simp
          try simp only [Act.put, List.getElem_toArray, List.getElem_cons_succ, List.getElem_cons_zero, List.setIfInBounds_toArray, List.set_cons_zero, List.set_cons_succ]
          refine wpAnyH_take (i := 16) (v := (.bool true)) rfl (by kernel_rfl) (by kernel_rfl) (by kernel_rfl) (fun _ _ _ h => nomatch h.1) (Or.inl ⟨by rfl, fun w' hSw => ?_⟩) (by with_reducible assumption) ?_
          · skip
            clear hSw
            go_simp
          try simp only [Act.put, List.getElem_toArray, List.getElem_cons_succ, List.getElem_cons_zero, List.setIfInBounds_toArray, List.set_cons_zero, List.set_cons_succ]
          refine wpAnyH_take (i := 17) (v := (.bool true)) rfl (by kernel_rfl) (by kernel_rfl) (by kernel_rfl) (fun _ _ _ h => nomatch h.1) (Or.inl ⟨by rfl, fun w' hSw => ?_⟩) (by with_reducible assumption) ?_
          · skip
            clear hSw
            go_simp
          try simp only [Act.put, List.getElem_toArray, List.getElem_cons_succ, List.getElem_cons_zero, List.setIfInBounds_toArray, List.set_cons_zero, List.set_cons_succ]
          refine wpAnyH_take (i := 18) (v := (.agg #[.slice a1 n' n', .slice a2 n' n', .slice a3 n' n', .slice a4 m'' m'', .bool fl''])) rfl (by kernel_rfl) (by kernel_rfl) (by kernel_rfl) (fun _ _ _ h => nomatch h.1) (Or.inl ⟨by rfl, fun w' hSw => ?_⟩) (by with_reducible assumption) ?_
          · obtain ⟨⟨f0, f1, f2, f3, f4⟩, -⟩ := (HXB.out.keep hSw).cells
            clear hSw
            go_simp
          try simp only [Act.put, List.getElem_toArray, List.getElem_cons_succ, List.getElem_cons_zero, List.setIfInBounds_toArray, List.set_cons_zero, List.set_cons_succ]
          refine wpAnyH_take (i := 19) (v := (.agg #[.slice b1 n' n', .slice b2 n' n', .slice b3 n' n', .slice b4 m'' m'', .bool fl''])) rfl (by kernel_rfl) (by kernel_rfl) (by kernel_rfl) (fun _ _ _ h => nomatch h.1) (Or.inl ⟨by rfl, fun w' hSw => ?_⟩) (by with_reducible assumption) ?_
          · obtain ⟨⟨f0, f1, f2, f3, f4⟩, -⟩ := (HYB.out.keep hSw).cells
            clear hSw
            go_simp
          try simp only [Act.put, List.getElem_toArray, List.getElem_cons_succ, List.getElem_cons_zero, List.setIfInBounds_toArray, List.set_cons_zero, List.set_cons_succ]
          refine wpAnyH_ready (rs := [20]) (by kernel_rfl) (by simp) ?_
          refine AllReadyH.cons (i := 20) rfl (fun K hK => ?_) AllReadyH.nil
          go_simp
          go_wp2_with (go_at_call 8; refine (HSM.out _ HK21.out).mono ?_; rintro e w22 ⟨rfl, hk22⟩; have HK22 : Hid (Kept W18 w22) := gtrans HK21.out hk22; clear hk22)
          refine hK.out _ _ HK22.out (fun hHeld2 => ?_)
          clear hK K hHeld
          have hHeld := hHeld2
          clear hHeld2
          try simp only [Act.put, List.getElem_toArray, List.getElem_cons_succ, List.getElem_cons_zero, List.setIfInBounds_toArray, List.set_cons_zero, List.set_cons_succ]
          refine wpAnyH_take (i := 21) (v := (.bool true)) rfl (by kernel_rfl) (by kernel_rfl) (by kernel_rfl) (fun _ _ _ h => nomatch h.1) (Or.inl ⟨by rfl, fun w' hSw => ?_⟩) (by with_reducible assumption) ?_
          · skip
            clear hSw
            go_simp
          try simp only [Act.put, List.getElem_toArray, List.getElem_cons_succ, List.getElem_cons_zero, List.setIfInBounds_toArray, List.set_cons_zero, List.set_cons_succ]
          refine wpAnyH_take (i := 22) (v := (.bool true)) rfl (by kernel_rfl) (by kernel_rfl) (by kernel_rfl) (fun _ _ _ h => nomatch h.1) (Or.inl ⟨by rfl, fun w' hSw => ?_⟩) (by with_reducible assumption) ?_
          · skip
            clear hSw
            go_simp
          try simp only [Act.put, List.getElem_toArray, List.getElem_cons_succ, List.getElem_cons_zero, List.setIfInBounds_toArray, List.set_cons_zero, List.set_cons_succ]
          refine wpAnyH_done (by kernel_rfl) ?_ _
          exact ⟨rfl, boR_of _ (by kernel_rfl), HK22⟩
        rintro e a' w' ⟨rfl, ⟨T4, rfl⟩, HKE⟩
        go_wp2_with fail
        go_ret
        exact ⟨rfl, gtrans HWX.out (gtrans HKX18.out HKE.out)⟩

end Ex
end Go.Proofs.YtooelfjceehmmaaDoor
