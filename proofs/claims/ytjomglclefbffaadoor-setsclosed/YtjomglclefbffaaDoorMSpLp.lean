import Derived.Test.YtjomglclefbffaaDoorMSpCf
import Derived.BigQuiet
namespace Go.Proofs.YtjomglclefbffaaDoor
open Go.RowKit
attribute [local go_sem] Oper.semAt_some
namespace Ex

def nthC : List Value → Nat → Value
  | [], _ => undef
  | x :: _, 0 => x
  | _ :: xs, n + 1 => nthC xs n
set_option maxRecDepth 1000000
def ClF (sb tb : Nat) (mv v8 : Value) (a' : Act) : Prop := ∃ T : Nat → Value, a' = { tmps := #[T 0, .pointer (some ⟨sb, 0, none⟩), T 2, .pointer (some ⟨tb, 0, none⟩), T 4, T 5, T 6, mv, v8, T 9, T 10, T 11, T 12, T 13, T 14, T 15, T 16, T 17, T 18, T 19, T 20, T 21, T 22, T 23, T 24, T 25, T 26, T 27, T 28, T 29, T 30, T 31, T 32, T 33, T 34, T 35, T 36, T 37, T 38, T 39, T 40, T 41, T 42, T 43, T 44, T 45, T 46, T 47, T 48, T 49, T 50, T 51, T 52, T 53, T 54, T 55, T 56, T 57, T 58, T 59, T 60, T 61, T 62, T 63, T 64, T 65, T 66, T 67, T 68, T 69, T 70, T 71, T 72, T 73, T 74, T 75, T 76, T 77, T 78, T 79, T 80, T 81, T 82, T 83, T 84, T 85, T 86, T 87, T 88, T 89, T 90, T 91, T 92, T 93, T 94, T 95, T 96, T 97, T 98, T 99, T 100, T 101, T 102, T 103, T 104, T 105, T 106, T 107, T 108, T 109, T 110, T 111, T 112, T 113, T 114, T 115, T 116, T 117, T 118, T 119, T 120, T 121, T 122, T 123, T 124, T 125, T 126, T 127, T 128, T 129, T 130, T 131, T 132, T 133, T 134, T 135, T 136, T 137, T 138, T 139, T 140, T 141, T 142, T 143, T 144, T 145, T 146, T 147, T 148, T 149, T 150, T 151, T 152, T 153, T 154, T 155, T 156, T 157, T 158, T 159, T 160, T 161, T 162, T 163, T 164, T 165, T 166, T 167, T 168, T 169, T 170, T 171, T 172, T 173, T 174, T 175, T 176, T 177, T 178, T 179, T 180, T 181, T 182, T 183, T 184, T 185, T 186, T 187, T 188, T 189, T 190, T 191, T 192, T 193, T 194, T 195, T 196, T 197, T 198, T 199, T 200, T 201, T 202, T 203, T 204, T 205, T 206, T 207, T 208, T 209, T 210, T 211, T 212, T 213, T 214, T 215, T 216, T 217, T 218, T 219, T 220, T 221, T 222, T 223, T 224, T 225, T 226, T 227, T 228, T 229, T 230, T 231, T 232, T 233, T 234, T 235, T 236, T 237, T 238, T 239, T 240, T 241, T 242, T 243, T 244, T 245, T 246, T 247, T 248, T 249, T 250, T 251, T 252, T 253, T 254, T 255, T 256, T 257, T 258, T 259], defers := [] }
theorem ClF_of {sb tb : Nat} {mv v8 : Value} (l : List Value) (h : l = [nthC l 0, .pointer (some ⟨sb, 0, none⟩), nthC l 2, .pointer (some ⟨tb, 0, none⟩), nthC l 4, nthC l 5, nthC l 6, mv, v8, nthC l 9, nthC l 10, nthC l 11, nthC l 12, nthC l 13, nthC l 14, nthC l 15, nthC l 16, nthC l 17, nthC l 18, nthC l 19, nthC l 20, nthC l 21, nthC l 22, nthC l 23, nthC l 24, nthC l 25, nthC l 26, nthC l 27, nthC l 28, nthC l 29, nthC l 30, nthC l 31, nthC l 32, nthC l 33, nthC l 34, nthC l 35, nthC l 36, nthC l 37, nthC l 38, nthC l 39, nthC l 40, nthC l 41, nthC l 42, nthC l 43, nthC l 44, nthC l 45, nthC l 46, nthC l 47, nthC l 48, nthC l 49, nthC l 50, nthC l 51, nthC l 52, nthC l 53, nthC l 54, nthC l 55, nthC l 56, nthC l 57, nthC l 58, nthC l 59, nthC l 60, nthC l 61, nthC l 62, nthC l 63, nthC l 64, nthC l 65, nthC l 66, nthC l 67, nthC l 68, nthC l 69, nthC l 70, nthC l 71, nthC l 72, nthC l 73, nthC l 74, nthC l 75, nthC l 76, nthC l 77, nthC l 78, nthC l 79, nthC l 80, nthC l 81, nthC l 82, nthC l 83, nthC l 84, nthC l 85, nthC l 86, nthC l 87, nthC l 88, nthC l 89, nthC l 90, nthC l 91, nthC l 92, nthC l 93, nthC l 94, nthC l 95, nthC l 96, nthC l 97, nthC l 98, nthC l 99, nthC l 100, nthC l 101, nthC l 102, nthC l 103, nthC l 104, nthC l 105, nthC l 106, nthC l 107, nthC l 108, nthC l 109, nthC l 110, nthC l 111, nthC l 112, nthC l 113, nthC l 114, nthC l 115, nthC l 116, nthC l 117, nthC l 118, nthC l 119, nthC l 120, nthC l 121, nthC l 122, nthC l 123, nthC l 124, nthC l 125, nthC l 126, nthC l 127, nthC l 128, nthC l 129, nthC l 130, nthC l 131, nthC l 132, nthC l 133, nthC l 134, nthC l 135, nthC l 136, nthC l 137, nthC l 138, nthC l 139, nthC l 140, nthC l 141, nthC l 142, nthC l 143, nthC l 144, nthC l 145, nthC l 146, nthC l 147, nthC l 148, nthC l 149, nthC l 150, nthC l 151, nthC l 152, nthC l 153, nthC l 154, nthC l 155, nthC l 156, nthC l 157, nthC l 158, nthC l 159, nthC l 160, nthC l 161, nthC l 162, nthC l 163, nthC l 164, nthC l 165, nthC l 166, nthC l 167, nthC l 168, nthC l 169, nthC l 170, nthC l 171, nthC l 172, nthC l 173, nthC l 174, nthC l 175, nthC l 176, nthC l 177, nthC l 178, nthC l 179, nthC l 180, nthC l 181, nthC l 182, nthC l 183, nthC l 184, nthC l 185, nthC l 186, nthC l 187, nthC l 188, nthC l 189, nthC l 190, nthC l 191, nthC l 192, nthC l 193, nthC l 194, nthC l 195, nthC l 196, nthC l 197, nthC l 198, nthC l 199, nthC l 200, nthC l 201, nthC l 202, nthC l 203, nthC l 204, nthC l 205, nthC l 206, nthC l 207, nthC l 208, nthC l 209, nthC l 210, nthC l 211, nthC l 212, nthC l 213, nthC l 214, nthC l 215, nthC l 216, nthC l 217, nthC l 218, nthC l 219, nthC l 220, nthC l 221, nthC l 222, nthC l 223, nthC l 224, nthC l 225, nthC l 226, nthC l 227, nthC l 228, nthC l 229, nthC l 230, nthC l 231, nthC l 232, nthC l 233, nthC l 234, nthC l 235, nthC l 236, nthC l 237, nthC l 238, nthC l 239, nthC l 240, nthC l 241, nthC l 242, nthC l 243, nthC l 244, nthC l 245, nthC l 246, nthC l 247, nthC l 248, nthC l 249, nthC l 250, nthC l 251, nthC l 252, nthC l 253, nthC l 254, nthC l 255, nthC l 256, nthC l 257, nthC l 258, nthC l 259]) : ClF sb tb mv v8 { tmps := l.toArray, defers := [] } := ⟨nthC l, by rw [← h]⟩
def ClG (sb tb : Nat) (mv v8 : Value) (pb : Nat) (v10 : Value) (a' : Act) : Prop := ∃ T : Nat → Value, a' = { tmps := #[T 0, .pointer (some ⟨sb, 0, none⟩), T 2, .pointer (some ⟨tb, 0, none⟩), T 4, T 5, T 6, mv, v8, .pointer (some ⟨pb, 0, none⟩), v10, T 11, T 12, T 13, T 14, T 15, T 16, T 17, T 18, T 19, T 20, T 21, T 22, T 23, T 24, T 25, T 26, T 27, T 28, T 29, T 30, T 31, T 32, T 33, T 34, T 35, T 36, T 37, T 38, T 39, T 40, T 41, T 42, T 43, T 44, T 45, T 46, T 47, T 48, T 49, T 50, T 51, T 52, T 53, T 54, T 55, T 56, T 57, T 58, T 59, T 60, T 61, T 62, T 63, T 64, T 65, T 66, T 67, T 68, T 69, T 70, T 71, T 72, T 73, T 74, T 75, T 76, T 77, T 78, T 79, T 80, T 81, T 82, T 83, T 84, T 85, T 86, T 87, T 88, T 89, T 90, T 91, T 92, T 93, T 94, T 95, T 96, T 97, T 98, T 99, T 100, T 101, T 102, T 103, T 104, T 105, T 106, T 107, T 108, T 109, T 110, T 111, T 112, T 113, T 114, T 115, T 116, T 117, T 118, T 119, T 120, T 121, T 122, T 123, T 124, T 125, T 126, T 127, T 128, T 129, T 130, T 131, T 132, T 133, T 134, T 135, T 136, T 137, T 138, T 139, T 140, T 141, T 142, T 143, T 144, T 145, T 146, T 147, T 148, T 149, T 150, T 151, T 152, T 153, T 154, T 155, T 156, T 157, T 158, T 159, T 160, T 161, T 162, T 163, T 164, T 165, T 166, T 167, T 168, T 169, T 170, T 171, T 172, T 173, T 174, T 175, T 176, T 177, T 178, T 179, T 180, T 181, T 182, T 183, T 184, T 185, T 186, T 187, T 188, T 189, T 190, T 191, T 192, T 193, T 194, T 195, T 196, T 197, T 198, T 199, T 200, T 201, T 202, T 203, T 204, T 205, T 206, T 207, T 208, T 209, T 210, T 211, T 212, T 213, T 214, T 215, T 216, T 217, T 218, T 219, T 220, T 221, T 222, T 223, T 224, T 225, T 226, T 227, T 228, T 229, T 230, T 231, T 232, T 233, T 234, T 235, T 236, T 237, T 238, T 239, T 240, T 241, T 242, T 243, T 244, T 245, T 246, T 247, T 248, T 249, T 250, T 251, T 252, T 253, T 254, T 255, T 256, T 257, T 258, T 259], defers := [] }
theorem ClG_of {sb tb : Nat} {mv v8 : Value} {pb : Nat} {v10 : Value} (l : List Value) (h : l = [nthC l 0, .pointer (some ⟨sb, 0, none⟩), nthC l 2, .pointer (some ⟨tb, 0, none⟩), nthC l 4, nthC l 5, nthC l 6, mv, v8, .pointer (some ⟨pb, 0, none⟩), v10, nthC l 11, nthC l 12, nthC l 13, nthC l 14, nthC l 15, nthC l 16, nthC l 17, nthC l 18, nthC l 19, nthC l 20, nthC l 21, nthC l 22, nthC l 23, nthC l 24, nthC l 25, nthC l 26, nthC l 27, nthC l 28, nthC l 29, nthC l 30, nthC l 31, nthC l 32, nthC l 33, nthC l 34, nthC l 35, nthC l 36, nthC l 37, nthC l 38, nthC l 39, nthC l 40, nthC l 41, nthC l 42, nthC l 43, nthC l 44, nthC l 45, nthC l 46, nthC l 47, nthC l 48, nthC l 49, nthC l 50, nthC l 51, nthC l 52, nthC l 53, nthC l 54, nthC l 55, nthC l 56, nthC l 57, nthC l 58, nthC l 59, nthC l 60, nthC l 61, nthC l 62, nthC l 63, nthC l 64, nthC l 65, nthC l 66, nthC l 67, nthC l 68, nthC l 69, nthC l 70, nthC l 71, nthC l 72, nthC l 73, nthC l 74, nthC l 75, nthC l 76, nthC l 77, nthC l 78, nthC l 79, nthC l 80, nthC l 81, nthC l 82, nthC l 83, nthC l 84, nthC l 85, nthC l 86, nthC l 87, nthC l 88, nthC l 89, nthC l 90, nthC l 91, nthC l 92, nthC l 93, nthC l 94, nthC l 95, nthC l 96, nthC l 97, nthC l 98, nthC l 99, nthC l 100, nthC l 101, nthC l 102, nthC l 103, nthC l 104, nthC l 105, nthC l 106, nthC l 107, nthC l 108, nthC l 109, nthC l 110, nthC l 111, nthC l 112, nthC l 113, nthC l 114, nthC l 115, nthC l 116, nthC l 117, nthC l 118, nthC l 119, nthC l 120, nthC l 121, nthC l 122, nthC l 123, nthC l 124, nthC l 125, nthC l 126, nthC l 127, nthC l 128, nthC l 129, nthC l 130, nthC l 131, nthC l 132, nthC l 133, nthC l 134, nthC l 135, nthC l 136, nthC l 137, nthC l 138, nthC l 139, nthC l 140, nthC l 141, nthC l 142, nthC l 143, nthC l 144, nthC l 145, nthC l 146, nthC l 147, nthC l 148, nthC l 149, nthC l 150, nthC l 151, nthC l 152, nthC l 153, nthC l 154, nthC l 155, nthC l 156, nthC l 157, nthC l 158, nthC l 159, nthC l 160, nthC l 161, nthC l 162, nthC l 163, nthC l 164, nthC l 165, nthC l 166, nthC l 167, nthC l 168, nthC l 169, nthC l 170, nthC l 171, nthC l 172, nthC l 173, nthC l 174, nthC l 175, nthC l 176, nthC l 177, nthC l 178, nthC l 179, nthC l 180, nthC l 181, nthC l 182, nthC l 183, nthC l 184, nthC l 185, nthC l 186, nthC l 187, nthC l 188, nthC l 189, nthC l 190, nthC l 191, nthC l 192, nthC l 193, nthC l 194, nthC l 195, nthC l 196, nthC l 197, nthC l 198, nthC l 199, nthC l 200, nthC l 201, nthC l 202, nthC l 203, nthC l 204, nthC l 205, nthC l 206, nthC l 207, nthC l 208, nthC l 209, nthC l 210, nthC l 211, nthC l 212, nthC l 213, nthC l 214, nthC l 215, nthC l 216, nthC l 217, nthC l 218, nthC l 219, nthC l 220, nthC l 221, nthC l 222, nthC l 223, nthC l 224, nthC l 225, nthC l 226, nthC l 227, nthC l 228, nthC l 229, nthC l 230, nthC l 231, nthC l 232, nthC l 233, nthC l 234, nthC l 235, nthC l 236, nthC l 237, nthC l 238, nthC l 239, nthC l 240, nthC l 241, nthC l 242, nthC l 243, nthC l 244, nthC l 245, nthC l 246, nthC l 247, nthC l 248, nthC l 249, nthC l 250, nthC l 251, nthC l 252, nthC l 253, nthC l 254, nthC l 255, nthC l 256, nthC l 257, nthC l 258, nthC l 259]) : ClG sb tb mv v8 pb v10 { tmps := l.toArray, defers := [] } := ⟨nthC l, by rw [← h]⟩
def ClH (sb tb : Nat) (mv v16 : Value) (a' : Act) : Prop := ∃ T : Nat → Value, a' = { tmps := #[T 0, .pointer (some ⟨sb, 0, none⟩), T 2, .pointer (some ⟨tb, 0, none⟩), T 4, T 5, T 6, mv, T 8, T 9, T 10, T 11, T 12, T 13, T 14, T 15, v16, T 17, T 18, T 19, T 20, T 21, T 22, T 23, T 24, T 25, T 26, T 27, T 28, T 29, T 30, T 31, T 32, T 33, T 34, T 35, T 36, T 37, T 38, T 39, T 40, T 41, T 42, T 43, T 44, T 45, T 46, T 47, T 48, T 49, T 50, T 51, T 52, T 53, T 54, T 55, T 56, T 57, T 58, T 59, T 60, T 61, T 62, T 63, T 64, T 65, T 66, T 67, T 68, T 69, T 70, T 71, T 72, T 73, T 74, T 75, T 76, T 77, T 78, T 79, T 80, T 81, T 82, T 83, T 84, T 85, T 86, T 87, T 88, T 89, T 90, T 91, T 92, T 93, T 94, T 95, T 96, T 97, T 98, T 99, T 100, T 101, T 102, T 103, T 104, T 105, T 106, T 107, T 108, T 109, T 110, T 111, T 112, T 113, T 114, T 115, T 116, T 117, T 118, T 119, T 120, T 121, T 122, T 123, T 124, T 125, T 126, T 127, T 128, T 129, T 130, T 131, T 132, T 133, T 134, T 135, T 136, T 137, T 138, T 139, T 140, T 141, T 142, T 143, T 144, T 145, T 146, T 147, T 148, T 149, T 150, T 151, T 152, T 153, T 154, T 155, T 156, T 157, T 158, T 159, T 160, T 161, T 162, T 163, T 164, T 165, T 166, T 167, T 168, T 169, T 170, T 171, T 172, T 173, T 174, T 175, T 176, T 177, T 178, T 179, T 180, T 181, T 182, T 183, T 184, T 185, T 186, T 187, T 188, T 189, T 190, T 191, T 192, T 193, T 194, T 195, T 196, T 197, T 198, T 199, T 200, T 201, T 202, T 203, T 204, T 205, T 206, T 207, T 208, T 209, T 210, T 211, T 212, T 213, T 214, T 215, T 216, T 217, T 218, T 219, T 220, T 221, T 222, T 223, T 224, T 225, T 226, T 227, T 228, T 229, T 230, T 231, T 232, T 233, T 234, T 235, T 236, T 237, T 238, T 239, T 240, T 241, T 242, T 243, T 244, T 245, T 246, T 247, T 248, T 249, T 250, T 251, T 252, T 253, T 254, T 255, T 256, T 257, T 258, T 259], defers := [] }
theorem ClH_of {sb tb : Nat} {mv v16 : Value} (l : List Value) (h : l = [nthC l 0, .pointer (some ⟨sb, 0, none⟩), nthC l 2, .pointer (some ⟨tb, 0, none⟩), nthC l 4, nthC l 5, nthC l 6, mv, nthC l 8, nthC l 9, nthC l 10, nthC l 11, nthC l 12, nthC l 13, nthC l 14, nthC l 15, v16, nthC l 17, nthC l 18, nthC l 19, nthC l 20, nthC l 21, nthC l 22, nthC l 23, nthC l 24, nthC l 25, nthC l 26, nthC l 27, nthC l 28, nthC l 29, nthC l 30, nthC l 31, nthC l 32, nthC l 33, nthC l 34, nthC l 35, nthC l 36, nthC l 37, nthC l 38, nthC l 39, nthC l 40, nthC l 41, nthC l 42, nthC l 43, nthC l 44, nthC l 45, nthC l 46, nthC l 47, nthC l 48, nthC l 49, nthC l 50, nthC l 51, nthC l 52, nthC l 53, nthC l 54, nthC l 55, nthC l 56, nthC l 57, nthC l 58, nthC l 59, nthC l 60, nthC l 61, nthC l 62, nthC l 63, nthC l 64, nthC l 65, nthC l 66, nthC l 67, nthC l 68, nthC l 69, nthC l 70, nthC l 71, nthC l 72, nthC l 73, nthC l 74, nthC l 75, nthC l 76, nthC l 77, nthC l 78, nthC l 79, nthC l 80, nthC l 81, nthC l 82, nthC l 83, nthC l 84, nthC l 85, nthC l 86, nthC l 87, nthC l 88, nthC l 89, nthC l 90, nthC l 91, nthC l 92, nthC l 93, nthC l 94, nthC l 95, nthC l 96, nthC l 97, nthC l 98, nthC l 99, nthC l 100, nthC l 101, nthC l 102, nthC l 103, nthC l 104, nthC l 105, nthC l 106, nthC l 107, nthC l 108, nthC l 109, nthC l 110, nthC l 111, nthC l 112, nthC l 113, nthC l 114, nthC l 115, nthC l 116, nthC l 117, nthC l 118, nthC l 119, nthC l 120, nthC l 121, nthC l 122, nthC l 123, nthC l 124, nthC l 125, nthC l 126, nthC l 127, nthC l 128, nthC l 129, nthC l 130, nthC l 131, nthC l 132, nthC l 133, nthC l 134, nthC l 135, nthC l 136, nthC l 137, nthC l 138, nthC l 139, nthC l 140, nthC l 141, nthC l 142, nthC l 143, nthC l 144, nthC l 145, nthC l 146, nthC l 147, nthC l 148, nthC l 149, nthC l 150, nthC l 151, nthC l 152, nthC l 153, nthC l 154, nthC l 155, nthC l 156, nthC l 157, nthC l 158, nthC l 159, nthC l 160, nthC l 161, nthC l 162, nthC l 163, nthC l 164, nthC l 165, nthC l 166, nthC l 167, nthC l 168, nthC l 169, nthC l 170, nthC l 171, nthC l 172, nthC l 173, nthC l 174, nthC l 175, nthC l 176, nthC l 177, nthC l 178, nthC l 179, nthC l 180, nthC l 181, nthC l 182, nthC l 183, nthC l 184, nthC l 185, nthC l 186, nthC l 187, nthC l 188, nthC l 189, nthC l 190, nthC l 191, nthC l 192, nthC l 193, nthC l 194, nthC l 195, nthC l 196, nthC l 197, nthC l 198, nthC l 199, nthC l 200, nthC l 201, nthC l 202, nthC l 203, nthC l 204, nthC l 205, nthC l 206, nthC l 207, nthC l 208, nthC l 209, nthC l 210, nthC l 211, nthC l 212, nthC l 213, nthC l 214, nthC l 215, nthC l 216, nthC l 217, nthC l 218, nthC l 219, nthC l 220, nthC l 221, nthC l 222, nthC l 223, nthC l 224, nthC l 225, nthC l 226, nthC l 227, nthC l 228, nthC l 229, nthC l 230, nthC l 231, nthC l 232, nthC l 233, nthC l 234, nthC l 235, nthC l 236, nthC l 237, nthC l 238, nthC l 239, nthC l 240, nthC l 241, nthC l 242, nthC l 243, nthC l 244, nthC l 245, nthC l 246, nthC l 247, nthC l 248, nthC l 249, nthC l 250, nthC l 251, nthC l 252, nthC l 253, nthC l 254, nthC l 255, nthC l 256, nthC l 257, nthC l 258, nthC l 259]) : ClH sb tb mv v16 { tmps := l.toArray, defers := [] } := ⟨nthC l, by rw [← h]⟩
/-- What is noted of the names so far. -/
def MadI (nl : Nat) (ps : List ProdM) (L : Nat → Option (List Int)) (M : List Bool) (i : Nat) : Prop := ∀ (j : Nat) (p : ProdM), j < i → ps[j]? = some p → yieldL nl (fun n => (L n).getD []) p.2 = (L p.1.toNat).getD [] → M[p.1.toNat]? = some true
def ClI (nl : Nat) (ps : List ProdM) (L : Nat → Option (List Int)) (fl : Bool) (sb tb mb nn np : Nat) (w3 : World) (a' : Act) (wr : World) : Prop := ∃ (i : Nat) (M : List Bool), ClF sb tb (.slice (some ⟨mb, 0, none⟩) nn nn) (.int .i64 (i : Int)) a' ∧ i ≤ np ∧ Hid (Kept w3 wr) ∧ Hid (TabB wr mb M) ∧ Hid (M.length = nn) ∧ Hid (fl = false → MadI nl ps L M i)
def ClJ (sb tb mb nn pb i nr : Nat) (W5 : World) (a' : Act) (wr : World) : Prop := ∃ kk : Nat, ClG sb tb (.slice (some ⟨mb, 0, none⟩) nn nn) (.int .i64 (i : Int)) pb (.int .i64 (kk : Int)) a' ∧ kk ≤ nr ∧ Hid (Kept W5 wr)
def ClK (sb tb mb nn : Nat) (W9 : World) (a' : Act) (wr : World) : Prop := ∃ i : Nat, ClH sb tb (.slice (some ⟨mb, 0, none⟩) nn nn) (.int .i64 (i : Int)) a' ∧ i ≤ nn ∧ Hid (Kept W9 wr)
theorem madI_step {nl : Nat} {ps : List ProdM} {L : Nat → Option (List Int)} {M : List Bool} {i pl : Nat} {p : ProdM} (h : MadI nl ps L M i) (hp : ps[i]? = some p) (hpl : p.1.toNat = pl) (hl : pl < M.length) {v : Bool} (h1 : M[pl]? = some true → v = true) (h2 : yieldL nl (fun n => (L n).getD []) p.2 = (L pl).getD [] → v = true) : MadI nl ps L (M.set pl v) (i + 1) := by
  intro j q hj hq hy
  by_cases e : q.1.toNat = pl
  · rw [e, List.getElem?_set_self hl]
    by_cases ej : j = i
    · subst ej
      rw [hp] at hq
      injection hq with hq
      subst hq
      rw [e] at hy
      rw [h2 hy]
    · have := h j q (by omega) hq hy
      rw [e] at this
      rw [h1 this]
  · rw [List.getElem?_set_ne (fun h => e h.symm)]
    by_cases ej : j = i
    · subst ej
      rw [hp] at hq
      injection hq with hq
      subst hq
      exact absurd hpl e
    · exact h j q (by omega) hq hy
theorem madI_all {nl nn : Nat} {ps : List ProdM} {L : Nat → Option (List Int)} {M : List Bool} {i : Nat} (h : MadI nl ps L M i) (hi : ps.length ≤ i) (hY : YIs nl ps L) (hall : ∀ x, x < nn → (L x).isSome = true) {x : Nat} (hx : x < nn) : M[x]? = some true := by
  obtain ⟨r, hr⟩ := Option.isSome_iff_exists.1 (hall x hx)
  obtain ⟨j, p, hp, hpx, hy⟩ := yield_made hY hr
  have hj : j < i := Nat.lt_of_lt_of_le (List.getElem?_eq_some_iff.1 hp).1 hi
  have := h j p hj hp (by rw [hpx, hr]; exact hy)
  rw [hpx] at this
  exact this
set_option linter.unusedSimpArgs false in
set_option maxHeartbeats 64000000 in
/-- SetsClosed. -/
theorem closed_is (k : Nat) (lex : List (LexM k)) (ps : List ProdM) (al an ap : Option Addr) (nl cl nn cn np cp : Nat) (st : Int) (w : World) (hnn : nn ≤ 17592186044416) (hlex : lex.length = nl) (hps : ps.length = np) (hl : LexAt w k (.slice al nl cl) lex) (hp : ProdsAt w (.slice ap np cp) ps) (hT : TabAt w) :
    Calls Tryd.prog 6 #[.agg #[.slice al nl cl, .slice an nn cn, .int .i64 st, .slice ap np cp]] w fun e w' => e = .returned (.bool true) ∧ Kept w w' := by
  obtain ⟨_, _, e1, hc, hn⟩ := hp.len
  simp only [Value.slice.injEq] at e1
  obtain ⟨rfl, en, rfl⟩ := e1
  clear en
  rw [hps] at hc hn
  have gn : (np : Int) ≤ 17592186044416 := by omega
  have HB := hide1 (SBox.new w (.slice al nl cl) (.slice an nn cn) (.int .i64 st) (.slice ap np cp))
  have HK : Hid (Kept w (w.alloc (.cells #[.slice al nl cl, .slice an nn cn, .int .i64 st, .slice ap np cp] 26))) := (Kept.refl w).alloc _ _
  have HP := hide1 hp
  have HL := hide1 hl
  have HPS := hide1 hps
  have HLEN := hide1 hlex
  have HT := hide1 hT
  have HNN := hide1 hnn
  clear hp hps hl hlex hnn hT
  go_enter Tryd.func6, Tryd.ntmps6
  go_upto_region 1 with fail
  obtain ⟨W, hW⟩ : ∃ W, w.alloc (.cells #[.slice al nl cl, .slice an nn cn, .int .i64 st, .slice ap np cp] 26) = W := ⟨_, rfl⟩
  rw [hW] at HB HK ⊢
  clear hW
  obtain ⟨sb, hsb⟩ : ∃ sb, w.heap.size = sb := ⟨_, rfl⟩
  rw [hsb] at HB ⊢
  clear hsb
  obtain ⟨s0, s1, s2, s3⟩ := HB.out.facts
  go_wp2_with fail
  refine (told_is k lex ps al an ap nl cl nn cn np cp st _ HNN.out HLEN.out HPS.out (HL.out.keep HK.out) (HP.out.keep HK.out) (HT.out.keep HK.out)).mono ?_
  rintro e w1 ⟨x, hq, hk1, hor⟩
  have HQ := hide1 hq
  have HK1 := hide1 hk1
  have HB1 := hide1 (HB.out.keep hk1)
  have HKw1 := hide1 (gtrans HK.out hk1)
  clear s0 s1 s2 s3 hq hk1
  obtain ⟨s0, s1, s2, s3⟩ := HB1.out.facts
  rcases hor with ⟨hx0, rfl⟩ | ⟨hx0, g1, g2, g3, ay, m, y, rfl, o1, o2, o3, o4, o5⟩
  · go_upto_region 2 with fail
    clear s0 s1 s2 s3
    have HA1 : Hid (Kept w1 (w1.alloc (.cells #[.slice none 0 0, .slice none 0 0, .slice none 0 0, .slice none 0 0, .bool false] 31))) := (Kept.refl w1).alloc _ _
    obtain ⟨W2, hW2⟩ : ∃ W2, w1.alloc (.cells #[.slice none 0 0, .slice none 0 0, .slice none 0 0, .slice none 0 0, .bool false] 31) = W2 := ⟨_, rfl⟩
    rw [hW2] at HA1 ⊢
    clear hW2
    have HKw2 := hide1 (gtrans HKw1.out HA1.out)
    go_wp2_with (go_at_call 10; refine (head_is7 _ (HT.out.keep HKw2.out)).mono ?_; rintro e w9 ⟨rfl, hk9⟩; have HK9 := hide1 hk9; clear hk9)
    go_ret
    exact ⟨rfl, gtrans HKw2.out HK9.out⟩
  · have HQ0 : Hid (CheckQ lex ps nn nl st (0, 0)) := by
      have h := HQ.out
      rw [(checkQ_ok h hx0).1] at h
      exact h
    have HCI := hide1 (check_in HLEN.out HQ0.out)
    have HSS := hide1 (sym_s HLEN.out HQ0.out)
    have hn64 : nl ≤ 64 := HCI.out.1.1
    have hn128 : nn ≤ 128 := HCI.out.1.2.1
    obtain ⟨sn, hsn⟩ : ∃ sn : Nat, (sn : Int) = st := ⟨st.toNat, Int.toNat_of_nonneg HCI.out.1.2.2.1⟩
    have hsl : sn < nn := by have := HCI.out.1.2.2.2; omega
    rw [← hsn] at o3
    have o3 : FollowOk nl sn ps nn W.heap.size (.slice (some ⟨g3, 0, none⟩) nn nn) w1 := o3
    obtain ⟨E, hE, hEr⟩ := null_rd hn128 o1
    obtain ⟨Fl, hF, hFs, hF8, hFr⟩ := first_rd hn128 o2
    obtain ⟨Gl, hG, hGs, hGr⟩ := follow_rd hn128 o3
    have HYL : Hid ((y.1 == 6) = false → YlsRd nl ps nn m ay w1) := hide1 (fun h => yld_rd hn128 (by omega) o4 o5 h)
    obtain ⟨fl, hfl⟩ : ∃ fl, (y.1 == 6) = fl := ⟨_, rfl⟩
    rw [hfl] at HYL ⊢
    have HE := hide1 hE
    have HEr := hide1 hEr
    have HF := hide1 hF
    have HFs := hide1 hFs
    have HF128 := hide1 hF8
    have HFr := hide1 hFr
    have HG := hide1 hG
    have HGs := hide1 hGs
    have HGr := hide1 hGr
    have HSN := hide1 hsn
    clear hfl o1 o2 o3 o4 o5 hx0 hE hEr hF hFs hF8 hFr hG hGs hGr
    go_upto_region 2 with fail
    clear s0 s1 s2 s3
    have HA1 : Hid (Kept w1 (w1.alloc (.cells #[.slice (some ⟨g1, 0, none⟩) nn nn, .slice (some ⟨g2, 0, none⟩) nn nn, .slice (some ⟨g3, 0, none⟩) nn nn, .slice ay m m, .bool fl] 31))) := (Kept.refl w1).alloc _ _
    have HTD : Hid (TdBox (w1.alloc (.cells #[.slice (some ⟨g1, 0, none⟩) nn nn, .slice (some ⟨g2, 0, none⟩) nn nn, .slice (some ⟨g3, 0, none⟩) nn nn, .slice ay m m, .bool fl] 31)) w1.heap.size (.slice (some ⟨g1, 0, none⟩) nn nn) (.slice (some ⟨g2, 0, none⟩) nn nn) (.slice (some ⟨g3, 0, none⟩) nn nn) (.slice ay m m) fl) := heap_alloc_new w1 _
    obtain ⟨W2, hW2⟩ : ∃ W2, w1.alloc (.cells #[.slice (some ⟨g1, 0, none⟩) nn nn, .slice (some ⟨g2, 0, none⟩) nn nn, .slice (some ⟨g3, 0, none⟩) nn nn, .slice ay m m, .bool fl] 31) = W2 := ⟨_, rfl⟩
    rw [hW2] at HA1 HTD ⊢
    clear hW2
    obtain ⟨tb, htb⟩ : ∃ tb, w1.heap.size = tb := ⟨_, rfl⟩
    rw [htb] at HTD ⊢
    clear htb
    have HKw2 := hide1 (gtrans HKw1.out HA1.out)
    have HC2 : Hid (CloW lex ps al an ap nl cl nn cn np cp st sb tb g1 g2 g3 ay m fl E Fl Gl W2) := hide1 ⟨HB1.out.keep HA1.out, HTD.out, HEr.out.keep HA1.out, HFr.out.keep HA1.out, HGr.out.keep HA1.out, HL.out.keep HKw2.out, HP.out.keep HKw2.out, HT.out.keep HKw2.out⟩
    have gnn : (nn : Int) ≤ 128 := by omega
    have gnl : (nl : Int) ≤ 64 := by omega
    go_upto_region 4 with (go_at_call 10; refine (head_is7 _ (HT.out.keep HKw2.out)).mono ?_; rintro e w3 ⟨rfl, hk3⟩; have HK3 := hide1 hk3; clear hk3)
    have HC3 := hide1 (HC2.out.keep HK3.out)
    have HKw3 := hide1 (gtrans HKw2.out HK3.out)
    have HYL3 : Hid (fl = false → YlsRd nl ps nn m ay w3) := hide1 (fun h => by
      obtain ⟨L, yb, yo, h1, h2, h3, h4, h5⟩ := HYL.out h
      exact ⟨L, yb, yo, h1, h2, h3, h4, h5.keep (gtrans HA1.out HK3.out)⟩)
    clear HYL HC2 HTD
    obtain ⟨s0, s1, s2, s3⟩ := HC3.out.1.facts
    obtain ⟨f0, f1, f2, f3, f4⟩ := (TdBox.cells HC3.out.2.1).1
    obtain ⟨hgn, ga0, gc0, k3, hgr⟩ := HC3.out.2.2.2.2.1 sn hsl
    obtain ⟨gn3, hgn3⟩ : ∃ gn3, (Gl sn).length = gn3 := ⟨_, rfl⟩
    rw [hgn3] at k3 hgr
    have HGN0 := hide1 hgn3
    have HGR0 := hide1 hgr
    have HMM : Hid (((nl : Int) + 1) ∈ Gl sn) := hide1 ((HG.out sn _).2 ⟨nl + 1, by omega, (lf_closed (fo_up nl (Mk false ps) (Fi nl (Mk false ps) ps) ps)).1 _ rfl⟩)
    have gsn : (sn : Int) < (nn : Int) := by omega
    have hsn2 := hsn.symm
    subst hsn2
    clear hgn3 hgr hgn hsn
    go_upto_region 7 with (go_at_call 13; refine (lHas_yes ga0 gn3 gc0 (Gl sn) _ _ HGN0.out HGR0.out HMM.out).mono ?_; rintro e w4 ⟨rfl, hw4⟩; have hw4 := hw4.symm; subst hw4)
    clear f0 f1 f2 f3 f4 k3 HGN0 HGR0 HMM
    have rt := run_tab nn (by omega) w3
    go_upto_region 8 with fail
    clear rt s0 s1 s2 s3
    have HM4 : Hid (TabB (w3.alloc (.cells (Array.replicate nn (.bool false)) 4)) w3.heap.size (List.replicate nn false)) := hide1 (by
      unfold TabB
      rw [show ((List.replicate nn false).map Value.bool).toArray = Array.replicate nn (Value.bool false) by simp]
      exact heap_alloc_new w3 _)
    have HK4 : Hid (Kept w3 (w3.alloc (.cells (Array.replicate nn (.bool false)) 4))) := hide1 ((Kept.refl w3).alloc _ _)
    obtain ⟨W4, hW4⟩ : ∃ W4, w3.alloc (.cells (Array.replicate nn (.bool false)) 4) = W4 := ⟨_, rfl⟩
    rw [hW4] at HM4 HK4 ⊢
    clear hW4
    obtain ⟨mb, hmb⟩ : ∃ mb, w3.heap.size = mb := ⟨_, rfl⟩
    rw [hmb] at HM4 ⊢
    have HMBL : Hid (w3.heap.size ≤ mb) := hide1 (by omega)
    have HMBE := hide1 hmb
    clear hmb
    obtain ⟨L, HL0⟩ : ∃ L : Nat → Option (List Int), Hid (fl = false → YIs nl ps L ∧ (∀ x, x < nn → (L x).isSome = true) ∧ m = nn ∧ ∃ yb yo, ay = some ⟨yb, yo, none⟩ ∧ YlRd w3 yb yo nn (fun x => (L x).getD [])) := by
      cases fl with
      | true => exact ⟨fun _ => none, hide1 (fun h => by cases h)⟩
      | false =>
        obtain ⟨L, yb, yo, h1, h2, h3, h4, h5⟩ := HYL3.out rfl
        exact ⟨L, hide1 (fun _ => ⟨h1, h2, h4, yb, yo, h3, h5⟩)⟩
    clear HYL3
    go_wp2_with fail
    refine wp_loop (ClI nl ps L fl sb tb mb nn np w3) (fun a' _ => np - (intOf (a'.tmps.getD 8 undef)).toNat) ?_ ?_
    · exact ⟨0, List.replicate nn false, ClF_of _ (by kernel_rfl), Nat.zero_le _, HK4, HM4, List.length_replicate, hide1 (fun _ j p h => by omega)⟩
    · clear HM4 HK4
      rintro a' wr ⟨i, M, ⟨T, rfl⟩, hi, HKr, HMr, HML, HMD⟩
      by_cases hlt : (i : Int) < (np : Int)
      · have HC := hide1 (HC3.out.keep HKr.out)
        obtain ⟨s0, s1, s2, s3⟩ := HC.out.1.facts
        obtain ⟨p, hp⟩ : ∃ p, ps[i]? = some p := ⟨_, List.getElem?_eq_getElem (by have := HPS.out; omega)⟩
        obtain ⟨cb, o2, cs, ea, hcb, hlen, hcell, v', hcs, hrt⟩ := SliceOf.el HC.out.2.2.2.2.2.2.1 hp
        subst ea hcs
        obtain ⟨ra, rc, hv', hrc⟩ := SliceOf.len hrt
        subst hv'
        obtain ⟨hnr, hp1, hsy⟩ := HSS.out p (List.mem_of_getElem? hp)
        obtain ⟨pl, hpl⟩ : ∃ pl : Nat, (pl : Int) = p.1 := ⟨p.1.toNat, Int.toNat_of_nonneg hp1.1⟩
        have hpln : pl < nn := by omega
        have HPLT : Hid (p.1.toNat = pl) := hide1 (by omega)
        have k0 : wr.cell? ⟨cb, o2 + i * 2, none⟩ = some (.int .i64 (pl : Int)) := by rw [hpl]; exact hcell 0 _ rfl
        have k1 : wr.cell? ⟨cb, o2 + i * 2 + 1, none⟩ = some (.slice ra p.2.length rc) := hcell 1 _ rfl
        obtain ⟨nr, hnre⟩ : ∃ nr, p.2.length = nr := ⟨_, rfl⟩
        rw [hnre] at k1 hrt hrc hnr
        have HNR := hide1 hnre
        have HRT := hide1 hrt
        have HPP := hide1 hp
        have HSY : Hid (∀ x ∈ p.2, SymS nn x) := hide1 (fun x hx => (hsy x hx).2)
        have HSE : Hid (∀ x ∈ p.2, symErr lex nn x = 0) := hide1 (fun x hx => (hsy x hx).1)
        have hnrc : nr ≤ rc := hrc.1
        have gic : (i : Int) < (cp : Int) := by omega
        have gnr : (nr : Int) ≤ 16 := by omega
        have gpl : (pl : Int) < (nn : Int) := by omega
        have HPB0 := hide1 (PBox.new wr (.int .i64 (pl : Int)) (.slice ra nr rc))
        have HK50 : Hid (Kept wr (wr.alloc (.cells #[.int .i64 (pl : Int), .slice ra nr rc] 37))) := hide1 ((Kept.refl wr).alloc _ _)
        clear hp hcell hlen hrt hnre hsy hp1 hpl hrc
        go_upto_region 12 with fail
        clear k0 k1 s0 s1 s2 s3
        obtain ⟨W5, hW5⟩ : ∃ W5, wr.alloc (.cells #[.int .i64 (pl : Int), .slice ra nr rc] 37) = W5 := ⟨_, rfl⟩
        rw [hW5] at HPB0 HK50 ⊢
        clear hW5
        have HPBL : Hid (mb < wr.heap.size) := hide1 HMr.out.lt
        obtain ⟨pb, hpb⟩ : ∃ pb, wr.heap.size = pb := ⟨_, rfl⟩
        rw [hpb] at HPB0 HPBL ⊢
        clear hpb
        have HPB := HPB0
        have HK5 := HK50
        have HC5 := hide1 (HC.out.keep HK5.out)
        have HM5 := hide1 (HMr.out.keep HK5.out)
        clear HPB0 HK50
        obtain ⟨hfn8, fa, fc, hfc, hfr⟩ := HC5.out.2.2.2.1 pl hpln
        obtain ⟨fn, hfn⟩ : ∃ fn, (Fl pl).length = fn := ⟨_, rfl⟩
        rw [hfn] at hfn8 hfc hfr
        have HFC := hide1 hfc
        have HFR := hide1 hfr
        have HFN := hide1 hfn
        have HCF : Hid (∀ z ∈ headsL nl E Fl [] p.2, z ∈ Fl pl) := hide1 (by
          have h := closed_first HE.out HF.out HPP.out
          rw [HPLT.out] at h
          exact h)
        clear hfc hfr hfn
        refine wp_region_held_drew (S := fun X => Kept W5 X) (by kernel_rfl) (Kept.refl W5) (fun hHeld => ?_)
        refine wpAnyH_take (i := 0) (v := .agg #[.slice (some ⟨g1, 0, none⟩) nn nn, .slice (some ⟨g2, 0, none⟩) nn nn, .slice (some ⟨g3, 0, none⟩) nn nn, .slice ay m m, .bool fl]) rfl (by kernel_rfl) (by kernel_rfl) (by kernel_rfl) (fun _ _ _ h => h) (Or.inl ⟨by kernel_rfl, fun w' hSw => ?_⟩) (by with_reducible assumption) ?_
        · obtain ⟨f0, f1, f2, f3, f4⟩ := (TdBox.cells (HC5.out.keep hSw).2.1).1
          clear hSw
          go_simp
        try simp only [Act.put, List.getElem_toArray, List.getElem_cons_succ, List.getElem_cons_zero, List.setIfInBounds_toArray, List.set_cons_zero, List.set_cons_succ]
        refine wpAnyH_take (i := 1) (v := .agg #[.slice al nl cl, .slice an nn cn, .int .i64 (sn : Int), .slice (some ⟨cb, o2, none⟩) np cp]) rfl (by kernel_rfl) (by kernel_rfl) (by kernel_rfl) (fun _ _ _ h => h) (Or.inl ⟨by kernel_rfl, fun w' hSw => ?_⟩) (by with_reducible assumption) ?_
        · obtain ⟨s0, s1, s2, s3⟩ := (HC5.out.keep hSw).1.facts
          clear hSw
          go_simp
        try simp only [Act.put, List.getElem_toArray, List.getElem_cons_succ, List.getElem_cons_zero, List.setIfInBounds_toArray, List.set_cons_zero, List.set_cons_succ]
        refine wpAnyH_take (i := 2) (v := .pointer (some ⟨pb, 1, none⟩)) rfl (by kernel_rfl) (by kernel_rfl) (by kernel_rfl) (fun _ _ _ h => h) (Or.inl ⟨by kernel_rfl, fun w' hSw => ?_⟩) (by with_reducible assumption) ?_
        · clear hSw
          go_simp
        try simp only [Act.put, List.getElem_toArray, List.getElem_cons_succ, List.getElem_cons_zero, List.setIfInBounds_toArray, List.set_cons_zero, List.set_cons_succ]
        refine wpAnyH_take (i := 3) (v := .slice ra nr rc) rfl (by kernel_rfl) (by kernel_rfl) (by kernel_rfl) (fun _ _ _ h => h) (Or.inl ⟨by kernel_rfl, fun w' hSw => ?_⟩) (by with_reducible assumption) ?_
        · have s0 := (HPB.out.keep hSw).cells.2
          clear hSw
          go_simp
        try simp only [Act.put, List.getElem_toArray, List.getElem_cons_succ, List.getElem_cons_zero, List.setIfInBounds_toArray, List.set_cons_zero, List.set_cons_succ]
        refine wpAnyH_take (i := 5) (v := .pointer (some ⟨tb, 1, none⟩)) rfl (by kernel_rfl) (by kernel_rfl) (by kernel_rfl) (fun _ _ _ h => h) (Or.inl ⟨by kernel_rfl, fun w' hSw => ?_⟩) (by with_reducible assumption) ?_
        · clear hSw
          go_simp
        try simp only [Act.put, List.getElem_toArray, List.getElem_cons_succ, List.getElem_cons_zero, List.setIfInBounds_toArray, List.set_cons_zero, List.set_cons_succ]
        refine wpAnyH_take (i := 6) (v := .slice (some ⟨g2, 0, none⟩) nn nn) rfl (by kernel_rfl) (by kernel_rfl) (by kernel_rfl) (fun _ _ _ h => h) (Or.inl ⟨by kernel_rfl, fun w' hSw => ?_⟩) (by with_reducible assumption) ?_
        · obtain ⟨f0, f1, f2, f3, f4⟩ := (TdBox.cells (HC5.out.keep hSw).2.1).1
          clear hSw
          go_simp
        try simp only [Act.put, List.getElem_toArray, List.getElem_cons_succ, List.getElem_cons_zero, List.setIfInBounds_toArray, List.set_cons_zero, List.set_cons_succ]
        refine wpAnyH_take (i := 7) (v := .pointer (some ⟨pb, 0, none⟩)) rfl (by kernel_rfl) (by kernel_rfl) (by kernel_rfl) (fun _ _ _ h => h) (Or.inl ⟨by kernel_rfl, fun w' hSw => ?_⟩) (by with_reducible assumption) ?_
        · clear hSw
          go_simp
        try simp only [Act.put, List.getElem_toArray, List.getElem_cons_succ, List.getElem_cons_zero, List.setIfInBounds_toArray, List.set_cons_zero, List.set_cons_succ]
        refine wpAnyH_take (i := 8) (v := .int .i64 (pl : Int)) rfl (by kernel_rfl) (by kernel_rfl) (by kernel_rfl) (fun _ _ _ h => h) (Or.inl ⟨by kernel_rfl, fun w' hSw => ?_⟩) (by with_reducible assumption) ?_
        · have s0 := (HPB.out.keep hSw).cells.1
          clear hSw
          go_simp
        try simp only [Act.put, List.getElem_toArray, List.getElem_cons_succ, List.getElem_cons_zero, List.setIfInBounds_toArray, List.set_cons_zero, List.set_cons_succ]
        refine wpAnyH_take (i := 9) (v := .pointer (some ⟨g2, pl, none⟩)) rfl (by kernel_rfl) (by kernel_rfl) (by kernel_rfl) (fun _ _ _ h => h) (Or.inl ⟨by kernel_rfl, fun w' hSw => ?_⟩) (by with_reducible assumption) ?_
        · clear hSw
          go_simp
        try simp only [Act.put, List.getElem_toArray, List.getElem_cons_succ, List.getElem_cons_zero, List.setIfInBounds_toArray, List.set_cons_zero, List.set_cons_succ]
        refine wpAnyH_take (i := 10) (v := .slice fa fn fc) rfl (by kernel_rfl) (by kernel_rfl) (by kernel_rfl) (fun _ _ _ h => h) (Or.inl ⟨by kernel_rfl, fun w' hSw => ?_⟩) (by with_reducible assumption) ?_
        · have s0 := grown_cell hSw HFC.out
          clear hSw
          go_simp
        try simp only [Act.put, List.getElem_toArray, List.getElem_cons_succ, List.getElem_cons_zero, List.setIfInBounds_toArray, List.set_cons_zero, List.set_cons_succ]
        refine wpAnyH_ready (rs := [4]) (by kernel_rfl) (by simp) ?_
        refine AllReadyH.cons (i := 4) rfl (fun K hK => ?_) AllReadyH.nil
        go_simp
        go_wp2_with (go_at_call 17; refine (tHeads_is g1 g2 nn nl _ _ fl E Fl al cl _ _ _ ra nr rc p.2 none 0 0 [] _ hn64 hnr HNR.out (HRT.out.keep (gtrans HK5.out (drew_kept W5))) HSY.out (((HC5.out.keep (drew_kept W5)).2.2.2.1).td (HC5.out.keep (drew_kept W5)).2.2.1) rfl (ints_nil _) (by decide)).mono ?_; rintro e w6 ⟨⟨v, rfl, hv⟩, hk6⟩; have HV := hide1 hv; have HK56 := hide1 (gtrans (drew_kept W5) hk6); clear hv hk6)
        refine hK.out _ _ HK56.out (fun hHeld2 => ?_)
        clear hK K hHeld
        have hHeld := hHeld2
        clear hHeld2
        try simp only [Act.put, List.setIfInBounds_toArray, List.set_cons_zero, List.set_cons_succ]
        obtain ⟨va, vc, hv⟩ := HV.out.form
        subst hv
        obtain ⟨vn, hvn⟩ : ∃ vn, (headsL nl E Fl [] p.2).length = vn := ⟨_, rfl⟩
        rw [hvn] at HV ⊢
        have HVN := hide1 hvn
        have HVL := hide1 (headsL_len (nl := nl) (E := E) (nx := []) HF128.out (by simp) p.2)
        clear hvn
        have HVR := hide1 (HV.out.read (by have := HVL.out; have := HNR.out; omega))
        refine wpAnyH_ready (rs := [11]) (by kernel_rfl) (by simp) ?_
        refine AllReadyH.cons (i := 11) rfl (fun K hK => ?_) AllReadyH.nil
        go_simp
        go_wp2_with (go_at_call 16; refine (lWithin_yes va fa vn vc fn fc _ (Fl pl) _ HVN.out HFN.out HVR.out (HFR.out.keep HK56.out) HCF.out).mono ?_; rintro e w7 ⟨rfl, hw7⟩; have hw7 := hw7.symm; subst hw7)
        refine hK.out _ _ HK56.out (fun hHeld2 => ?_)
        clear hK K hHeld
        have hHeld := hHeld2
        clear hHeld2
        try simp only [Act.put, List.setIfInBounds_toArray, List.set_cons_zero, List.set_cons_succ]
        refine wpAnyH_take (i := 12) (v := .bool false) rfl (by kernel_rfl) (by kernel_rfl) (by kernel_rfl) (fun _ _ _ h => h) (Or.inl ⟨by kernel_rfl, fun w' hSw => ?_⟩) (by with_reducible assumption) ?_
        · clear hSw
          go_simp
        try simp only [Act.put, List.getElem_toArray, List.getElem_cons_succ, List.getElem_cons_zero, List.setIfInBounds_toArray, List.set_cons_zero, List.set_cons_succ]
        refine wpAnyH_done (by kernel_rfl) ?_ _
        clear hHeld
        have HC6 := hide1 (HC5.out.keep HK56.out)
        have HPB6 := hide1 (HPB.out.keep HK56.out)
        have HM6 := hide1 (HM5.out.keep HK56.out)
        have HKr6 := hide1 (gtrans HKr.out (gtrans HK5.out HK56.out))
        have HRT6 := hide1 (HRT.out.keep (gtrans HK5.out HK56.out))
        clear HFC HFR HFN HCF HV HVN HVL HVR HK56 HC5 HPB HM5 HRT
        go_wp2_with fail
        refine wp_loop (ClJ sb tb mb nn pb i nr w6) (fun a' _ => nr - (intOf (a'.tmps.getD 10 undef)).toNat) ?_ ?_
        · exact ⟨0, ClG_of _ (by kernel_rfl), Nat.zero_le _, Kept.refl _⟩
        · rintro a' wr2 ⟨kk, ⟨T2, rfl⟩, hkk, HK2⟩
          have HC7 := hide1 (HC6.out.keep HK2.out)
          have HPB7 := hide1 (HPB6.out.keep HK2.out)
          by_cases hlt2 : (kk : Int) < (nr : Int)
          · obtain ⟨y, hy⟩ : ∃ y, p.2[kk]? = some y := ⟨_, List.getElem?_eq_getElem (by have := HNR.out; omega)⟩
            obtain ⟨yk, yn⟩ := y
            have HRT7 := hide1 (HRT6.out.keep HK2.out)
            obtain ⟨rb, ro, cs, ea, _, hlen, hcell, hcs⟩ := SliceOf.el HRT7.out hy
            have hcs : cs = [.int .i64 yk, .int .i64 yn] := hcs
            subst ea hcs
            have HE0 : Hid (wr2.cell? ⟨rb, ro + kk * 2, none⟩ = some (.int .i64 yk)) := hide1 (hcell 0 _ rfl)
            have HE1 : Hid (wr2.cell? ⟨rb, ro + kk * 2 + 1, none⟩ = some (.int .i64 yn)) := hide1 (hcell 1 _ rfl)
            have gkc : (kk : Int) < (rc : Int) := by omega
            have HYY := hide1 hy
            have HYS := hide1 (HSY.out (yk, yn) (List.mem_of_getElem? hy))
            obtain ⟨rb2, rc2, hsl, hrr⟩ := right_rest HRT7.out (kk + 1) (by omega)
            obtain ⟨rn, hrne⟩ : ∃ rn, nr - (kk + 1) = rn := ⟨_, rfl⟩
            rw [hrne] at hsl hrr
            have HRR := hide1 hrr
            have hsl2 : ∀ w', (Instr.sliceAt 35 (.slice (some ⟨rb, ro, none⟩) nr rc) (some (.int .i64 ((kk : Int) + 1))) none none).run Tryd.prog w' = .ok (.slice rb2 rn rc2) w' := hsl
            have HRL : Hid ((p.2.drop (kk + 1)).length = rn) := hide1 (by rw [List.length_drop, HNR.out]; exact hrne)
            have hrn : rn ≤ 16 := by omega
            have HSD : Hid (∀ x ∈ p.2.drop (kk + 1), SymS nn x) := hide1 (fun x hx => HSY.out x (List.mem_of_mem_drop hx))
            have HRQ : Hid ((rowQ lex nn (p.2.drop (kk + 1))).1 = 0) := hide1 (row_zero (by rw [HRL.out]; exact hrn) (fun x hx => HSE.out x (List.mem_of_mem_drop hx)))
            have HTK : Hid (∀ z ∈ Gl pl, TermOk lex nl z) := hide1 (fun z hz => by
              obtain ⟨t, rfl, ht⟩ := (HG.out pl z).1 hz
              exact follow_term (x := (pl, t)) HLEN.out (fun q hq x hx => ((HSS.out q hq).2.2 x hx).1) ht)
            obtain ⟨hgn, ga, gc, hgc, hgr⟩ := HC7.out.2.2.2.2.1 pl hpln
            obtain ⟨gn, hgne⟩ : ∃ gn, (Gl pl).length = gn := ⟨_, rfl⟩
            rw [hgne] at hgn hgc hgr
            have HGC := hide1 hgc
            have HGR := hide1 hgr
            have HGN := hide1 hgne
            obtain ⟨p0, p1⟩ := HPB7.out.cells
            have gk1 : ((kk : Int) + 1) ≤ (nr : Int) := by omega
            clear hy hcell hlen hsl hrr hrne hgc hgr hgne
            go_upto_region 18 with fail
            clear p0 p1 hsl2
            refine wp_region_held_drew (S := fun X => Kept wr2 X) (by kernel_rfl) (Kept.refl wr2) (fun hHeld => ?_)
            refine wpAnyH_take (i := 0) (v := .agg #[.slice (some ⟨g1, 0, none⟩) nn nn, .slice (some ⟨g2, 0, none⟩) nn nn, .slice (some ⟨g3, 0, none⟩) nn nn, .slice ay m m, .bool fl]) rfl (by kernel_rfl) (by kernel_rfl) (by kernel_rfl) (fun _ _ _ h => h) (Or.inl ⟨by kernel_rfl, fun w' hSw => ?_⟩) (by with_reducible assumption) ?_
            · obtain ⟨f0, f1, f2, f3, f4⟩ := (TdBox.cells (HC7.out.keep hSw).2.1).1
              clear hSw
              go_simp
            try simp only [Act.put, List.getElem_toArray, List.getElem_cons_succ, List.getElem_cons_zero, List.setIfInBounds_toArray, List.set_cons_zero, List.set_cons_succ]
            refine wpAnyH_take (i := 1) (v := .agg #[.slice al nl cl, .slice an nn cn, .int .i64 (sn : Int), .slice (some ⟨cb, o2, none⟩) np cp]) rfl (by kernel_rfl) (by kernel_rfl) (by kernel_rfl) (fun _ _ _ h => h) (Or.inl ⟨by kernel_rfl, fun w' hSw => ?_⟩) (by with_reducible assumption) ?_
            · obtain ⟨s0, s1, s2, s3⟩ := (HC7.out.keep hSw).1.facts
              clear hSw
              go_simp
            try simp only [Act.put, List.getElem_toArray, List.getElem_cons_succ, List.getElem_cons_zero, List.setIfInBounds_toArray, List.set_cons_zero, List.set_cons_succ]
            refine wpAnyH_take (i := 2) (v := .slice rb2 rn rc2) rfl (by kernel_rfl) (by kernel_rfl) (by kernel_rfl) (fun _ _ _ h => h) (Or.inl ⟨by kernel_rfl, fun w' hSw => ?_⟩) (by with_reducible assumption) ?_
            · clear hSw
              go_simp
            try simp only [Act.put, List.getElem_toArray, List.getElem_cons_succ, List.getElem_cons_zero, List.setIfInBounds_toArray, List.set_cons_zero, List.set_cons_succ]
            refine wpAnyH_take (i := 3) (v := .pointer (some ⟨tb, 2, none⟩)) rfl (by kernel_rfl) (by kernel_rfl) (by kernel_rfl) (fun _ _ _ h => h) (Or.inl ⟨by kernel_rfl, fun w' hSw => ?_⟩) (by with_reducible assumption) ?_
            · clear hSw
              go_simp
            try simp only [Act.put, List.getElem_toArray, List.getElem_cons_succ, List.getElem_cons_zero, List.setIfInBounds_toArray, List.set_cons_zero, List.set_cons_succ]
            refine wpAnyH_take (i := 4) (v := .slice (some ⟨g3, 0, none⟩) nn nn) rfl (by kernel_rfl) (by kernel_rfl) (by kernel_rfl) (fun _ _ _ h => h) (Or.inl ⟨by kernel_rfl, fun w' hSw => ?_⟩) (by with_reducible assumption) ?_
            · obtain ⟨f0, f1, f2, f3, f4⟩ := (TdBox.cells (HC7.out.keep hSw).2.1).1
              clear hSw
              go_simp
            try simp only [Act.put, List.getElem_toArray, List.getElem_cons_succ, List.getElem_cons_zero, List.setIfInBounds_toArray, List.set_cons_zero, List.set_cons_succ]
            refine wpAnyH_take (i := 5) (v := .pointer (some ⟨pb, 0, none⟩)) rfl (by kernel_rfl) (by kernel_rfl) (by kernel_rfl) (fun _ _ _ h => h) (Or.inl ⟨by kernel_rfl, fun w' hSw => ?_⟩) (by with_reducible assumption) ?_
            · clear hSw
              go_simp
            try simp only [Act.put, List.getElem_toArray, List.getElem_cons_succ, List.getElem_cons_zero, List.setIfInBounds_toArray, List.set_cons_zero, List.set_cons_succ]
            refine wpAnyH_take (i := 6) (v := .int .i64 (pl : Int)) rfl (by kernel_rfl) (by kernel_rfl) (by kernel_rfl) (fun _ _ _ h => h) (Or.inl ⟨by kernel_rfl, fun w' hSw => ?_⟩) (by with_reducible assumption) ?_
            · have s0 := (HPB7.out.keep hSw).cells.1
              clear hSw
              go_simp
            try simp only [Act.put, List.getElem_toArray, List.getElem_cons_succ, List.getElem_cons_zero, List.setIfInBounds_toArray, List.set_cons_zero, List.set_cons_succ]
            refine wpAnyH_take (i := 7) (v := .pointer (some ⟨g3, pl, none⟩)) rfl (by kernel_rfl) (by kernel_rfl) (by kernel_rfl) (fun _ _ _ h => h) (Or.inl ⟨by kernel_rfl, fun w' hSw => ?_⟩) (by with_reducible assumption) ?_
            · clear hSw
              go_simp
            try simp only [Act.put, List.getElem_toArray, List.getElem_cons_succ, List.getElem_cons_zero, List.setIfInBounds_toArray, List.set_cons_zero, List.set_cons_succ]
            refine wpAnyH_take (i := 8) (v := .slice ga gn gc) rfl (by kernel_rfl) (by kernel_rfl) (by kernel_rfl) (fun _ _ _ h => h) (Or.inl ⟨by kernel_rfl, fun w' hSw => ?_⟩) (by with_reducible assumption) ?_
            · have s0 := grown_cell hSw HGC.out
              clear hSw
              go_simp
            try simp only [Act.put, List.getElem_toArray, List.getElem_cons_succ, List.getElem_cons_zero, List.setIfInBounds_toArray, List.set_cons_zero, List.set_cons_succ]
            refine wpAnyH_ready (rs := [9]) (by kernel_rfl) (by simp) ?_
            refine AllReadyH.cons (i := 9) rfl (fun K hK => ?_) AllReadyH.nil
            go_simp
            go_wp2_with (go_at_call 17; refine (tHeads_is g1 g2 nn nl _ _ fl E Fl al cl _ _ _ rb2 rn rc2 (p.2.drop (kk + 1)) ga gn gc (Gl pl) _ hn64 hrn HRL.out (HRR.out.keep (drew_kept wr2)) HSD.out (((HC7.out.keep (drew_kept wr2)).2.2.2.1).td (HC7.out.keep (drew_kept wr2)).2.2.1) HGN.out (HGR.out.keep (drew_kept wr2)) hgn).mono ?_; rintro e w8 ⟨⟨v, rfl, hv⟩, hk8⟩; have HV := hide1 hv; have HK78 := hide1 (gtrans (drew_kept wr2) hk8); clear hv hk8)
            refine hK.out _ _ HK78.out (fun hHeld2 => ?_)
            clear hK K hHeld
            have hHeld := hHeld2
            clear hHeld2
            try simp only [Act.put, List.setIfInBounds_toArray, List.set_cons_zero, List.set_cons_succ]
            refine wpAnyH_take (i := 10) (v := v) rfl (by kernel_rfl) (by kernel_rfl) (by kernel_rfl) (fun _ _ _ h => h) (Or.inl ⟨by kernel_rfl, fun w' hSw => ?_⟩) (by with_reducible assumption) ?_
            · clear hSw
              go_simp
            try simp only [Act.put, List.getElem_toArray, List.getElem_cons_succ, List.getElem_cons_zero, List.setIfInBounds_toArray, List.set_cons_zero, List.set_cons_succ]
            refine wpAnyH_done (by kernel_rfl) ?_ _
            clear hHeld
            obtain ⟨va, vc, hv⟩ := HV.out.form
            subst hv
            obtain ⟨wl, hwl⟩ : ∃ wl, headsL nl E Fl (Gl pl) (p.2.drop (kk + 1)) = wl := ⟨_, rfl⟩
            have HVL : Hid (wl.length ≤ 128 * (p.2.drop (kk + 1)).length + 128) := hide1 (by rw [← hwl]; exact Nat.le_trans (headsL_len (nl := nl) (E := E) (nx := Gl pl) HF128.out (by rw [HGN.out]; exact hgn) (p.2.drop (kk + 1))) (Nat.le_refl _))
            rw [hwl] at HV ⊢
            have HWL := hide1 hwl
            clear hwl
            obtain ⟨vn, hvn⟩ : ∃ vn, wl.length = vn := ⟨_, rfl⟩
            rw [hvn] at HV ⊢
            have HVN := hide1 hvn
            clear hvn
            have HVR := hide1 (HV.out.read (by have := HVL.out; have := HRL.out; omega))
            have HC8 := hide1 (HC7.out.keep HK78.out)
            have HPB8 := hide1 (HPB7.out.keep HK78.out)
            have HE08 := hide1 (grown_cell HK78.out HE0.out)
            have HE18 := hide1 (grown_cell HK78.out HE1.out)
            go_upto_region 19 with fail
            by_cases h3 : yk = 3
            · have hb3 : (yk == 3) = true := by simp [h3]
              have HH3 := hide1 h3
              clear h3
              have HYB : Hid (0 ≤ yn ∧ yn < (nn : Int)) := hide1 (by
                rcases HYS.out with h | h | h
                · exact absurd (HH3.out.symm.trans h.1) (by decide)
                · exact absurd (HH3.out.symm.trans h) (by decide)
                · exact h.2)
              obtain ⟨yp, hyp⟩ : ∃ yp, yn.toNat = yp := ⟨_, rfl⟩
              have HYP := hide1 hyp
              clear hyp
              have HYE : Hid (yn = (yp : Int)) := hide1 (by rw [← HYP.out]; exact (Int.toNat_of_nonneg HYB.out.1).symm)
              have HYLT : Hid (yp < nn) := hide1 (Int.ofNat_lt.1 (by rw [← HYE.out]; exact HYB.out.2))
              have gyp : (yp : Int) < (nn : Int) := Int.ofNat_lt.2 HYLT.out
              have HE19 : Hid (w8.cell? ⟨rb, ro + kk * 2 + 1, none⟩ = some (.int .i64 (yp : Int))) := hide1 (by rw [← HYE.out]; exact HE18.out)
              obtain ⟨hhn, ha, hac, hhc, hhr⟩ := HC8.out.2.2.2.2.1 yp HYLT.out
              obtain ⟨hn9, hhne⟩ : ∃ hn9, (Gl yp).length = hn9 := ⟨_, rfl⟩
              rw [hhne] at hhc hhr
              have HHR := hide1 hhr
              have HHN := hide1 hhne
              have HCL : Hid (∀ z ∈ wl, z ∈ Gl yp) := hide1 (by
                have h := closed_follow HE.out HF.out HG.out HPP.out HYY.out HH3.out
                rw [HPLT.out, HWL.out] at h
                have h : ∀ z ∈ wl, z ∈ Gl yn.toNat := h
                rw [HYP.out] at h
                exact h)
              have HHC := hide1 hhc
              clear hhn hhr hhne hhc
              refine wp_region_held_drew (S := fun X => Kept w8 X) (by kernel_rfl) (Kept.refl w8) (fun hHeld => ?_)
              refine wpAnyH_take (i := 0) (v := .pointer (some ⟨pb, 1, none⟩)) rfl (by kernel_rfl) (by kernel_rfl) (by kernel_rfl) (fun _ _ _ h => h) (Or.inl ⟨by kernel_rfl, fun w' hSw => ?_⟩) (by with_reducible assumption) ?_
              · clear hSw
                go_simp
              try simp only [Act.put, List.getElem_toArray, List.getElem_cons_succ, List.getElem_cons_zero, List.setIfInBounds_toArray, List.set_cons_zero, List.set_cons_succ]
              refine wpAnyH_take (i := 1) (v := .slice (some ⟨rb, ro, none⟩) nr rc) rfl (by kernel_rfl) (by kernel_rfl) (by kernel_rfl) (fun _ _ _ h => h) (Or.inl ⟨by kernel_rfl, fun w' hSw => ?_⟩) (by with_reducible assumption) ?_
              · have s0 := (HPB8.out.keep hSw).cells.2
                clear hSw
                go_simp
              try simp only [Act.put, List.getElem_toArray, List.getElem_cons_succ, List.getElem_cons_zero, List.setIfInBounds_toArray, List.set_cons_zero, List.set_cons_succ]
              refine wpAnyH_take (i := 2) (v := .int .i64 (kk : Int)) rfl (by kernel_rfl) (by kernel_rfl) (by kernel_rfl) (fun _ _ _ h => h) (Or.inl ⟨by kernel_rfl, fun w' hSw => ?_⟩) (by with_reducible assumption) ?_
              · clear hSw
                go_simp
              try simp only [Act.put, List.getElem_toArray, List.getElem_cons_succ, List.getElem_cons_zero, List.setIfInBounds_toArray, List.set_cons_zero, List.set_cons_succ]
              refine wpAnyH_take (i := 3) (v := .pointer (some ⟨rb, ro + kk * 2, none⟩)) rfl (by kernel_rfl) (by kernel_rfl) (by kernel_rfl) (fun _ _ _ h => h) (Or.inl ⟨by kernel_rfl, fun w' hSw => ?_⟩) (by with_reducible assumption) ?_
              · clear hSw
                go_simp
              try simp only [Act.put, List.getElem_toArray, List.getElem_cons_succ, List.getElem_cons_zero, List.setIfInBounds_toArray, List.set_cons_zero, List.set_cons_succ]
              refine wpAnyH_take (i := 4) (v := .pointer (some ⟨rb, ro + kk * 2, none⟩)) rfl (by kernel_rfl) (by kernel_rfl) (by kernel_rfl) (fun _ _ _ h => h) (Or.inl ⟨by kernel_rfl, fun w' hSw => ?_⟩) (by with_reducible assumption) ?_
              · clear hSw
                go_simp
              try simp only [Act.put, List.getElem_toArray, List.getElem_cons_succ, List.getElem_cons_zero, List.setIfInBounds_toArray, List.set_cons_zero, List.set_cons_succ]
              refine wpAnyH_take (i := 5) (v := .int .i64 yk) rfl (by kernel_rfl) (by kernel_rfl) (by kernel_rfl) (fun _ _ _ h => h) (Or.inl ⟨by kernel_rfl, fun w' hSw => ?_⟩) (by with_reducible assumption) ?_
              · have s0 := grown_cell hSw HE08.out
                clear hSw
                go_simp
              try simp only [Act.put, List.getElem_toArray, List.getElem_cons_succ, List.getElem_cons_zero, List.setIfInBounds_toArray, List.set_cons_zero, List.set_cons_succ]
              refine wpAnyH_take (i := 6) (v := .bool true) rfl (by kernel_rfl) (by kernel_rfl) (by kernel_rfl) (fun _ _ _ h => h) (Or.inl ⟨by kernel_rfl, fun w' hSw => ?_⟩) (by with_reducible assumption) ?_
              · clear hSw
                go_simp
              try simp only [Act.put, List.getElem_toArray, List.getElem_cons_succ, List.getElem_cons_zero, List.setIfInBounds_toArray, List.set_cons_zero, List.set_cons_succ]
              refine wpAnyH_take (i := 7) (v := .bool true) rfl (by kernel_rfl) (by kernel_rfl) (by kernel_rfl) (fun _ _ _ h => h) (Or.inl ⟨by kernel_rfl, fun w' hSw => ?_⟩) (by with_reducible assumption) ?_
              · clear hSw
                go_simp
              try simp only [Act.put, List.getElem_toArray, List.getElem_cons_succ, List.getElem_cons_zero, List.setIfInBounds_toArray, List.set_cons_zero, List.set_cons_succ]
              refine wpAnyH_take (i := 8) (v := .slice va vn vc) rfl (by kernel_rfl) (by kernel_rfl) (by kernel_rfl) (fun _ _ _ h => h) (Or.inl ⟨by kernel_rfl, fun w' hSw => ?_⟩) (by with_reducible assumption) ?_
              · clear hSw
                go_simp
              try simp only [Act.put, List.getElem_toArray, List.getElem_cons_succ, List.getElem_cons_zero, List.setIfInBounds_toArray, List.set_cons_zero, List.set_cons_succ]
              refine wpAnyH_take (i := 9) (v := .pointer (some ⟨tb, 2, none⟩)) rfl (by kernel_rfl) (by kernel_rfl) (by kernel_rfl) (fun _ _ _ h => h) (Or.inl ⟨by kernel_rfl, fun w' hSw => ?_⟩) (by with_reducible assumption) ?_
              · clear hSw
                go_simp
              try simp only [Act.put, List.getElem_toArray, List.getElem_cons_succ, List.getElem_cons_zero, List.setIfInBounds_toArray, List.set_cons_zero, List.set_cons_succ]
              refine wpAnyH_take (i := 10) (v := .slice (some ⟨g3, 0, none⟩) nn nn) rfl (by kernel_rfl) (by kernel_rfl) (by kernel_rfl) (fun _ _ _ h => h) (Or.inl ⟨by kernel_rfl, fun w' hSw => ?_⟩) (by with_reducible assumption) ?_
              · obtain ⟨f0, f1, f2, f3, f4⟩ := (TdBox.cells (HC8.out.keep hSw).2.1).1
                clear hSw
                go_simp
              try simp only [Act.put, List.getElem_toArray, List.getElem_cons_succ, List.getElem_cons_zero, List.setIfInBounds_toArray, List.set_cons_zero, List.set_cons_succ]
              refine wpAnyH_take (i := 11) (v := .pointer (some ⟨pb, 1, none⟩)) rfl (by kernel_rfl) (by kernel_rfl) (by kernel_rfl) (fun _ _ _ h => h) (Or.inl ⟨by kernel_rfl, fun w' hSw => ?_⟩) (by with_reducible assumption) ?_
              · clear hSw
                go_simp
              try simp only [Act.put, List.getElem_toArray, List.getElem_cons_succ, List.getElem_cons_zero, List.setIfInBounds_toArray, List.set_cons_zero, List.set_cons_succ]
              refine wpAnyH_take (i := 12) (v := .slice (some ⟨rb, ro, none⟩) nr rc) rfl (by kernel_rfl) (by kernel_rfl) (by kernel_rfl) (fun _ _ _ h => h) (Or.inl ⟨by kernel_rfl, fun w' hSw => ?_⟩) (by with_reducible assumption) ?_
              · have s0 := (HPB8.out.keep hSw).cells.2
                clear hSw
                go_simp
              try simp only [Act.put, List.getElem_toArray, List.getElem_cons_succ, List.getElem_cons_zero, List.setIfInBounds_toArray, List.set_cons_zero, List.set_cons_succ]
              refine wpAnyH_take (i := 13) (v := .int .i64 (kk : Int)) rfl (by kernel_rfl) (by kernel_rfl) (by kernel_rfl) (fun _ _ _ h => h) (Or.inl ⟨by kernel_rfl, fun w' hSw => ?_⟩) (by with_reducible assumption) ?_
              · clear hSw
                go_simp
              try simp only [Act.put, List.getElem_toArray, List.getElem_cons_succ, List.getElem_cons_zero, List.setIfInBounds_toArray, List.set_cons_zero, List.set_cons_succ]
              refine wpAnyH_take (i := 14) (v := .pointer (some ⟨rb, ro + kk * 2, none⟩)) rfl (by kernel_rfl) (by kernel_rfl) (by kernel_rfl) (fun _ _ _ h => h) (Or.inl ⟨by kernel_rfl, fun w' hSw => ?_⟩) (by with_reducible assumption) ?_
              · clear hSw
                go_simp
              try simp only [Act.put, List.getElem_toArray, List.getElem_cons_succ, List.getElem_cons_zero, List.setIfInBounds_toArray, List.set_cons_zero, List.set_cons_succ]
              refine wpAnyH_take (i := 15) (v := .pointer (some ⟨rb, ro + kk * 2 + 1, none⟩)) rfl (by kernel_rfl) (by kernel_rfl) (by kernel_rfl) (fun _ _ _ h => h) (Or.inl ⟨by kernel_rfl, fun w' hSw => ?_⟩) (by with_reducible assumption) ?_
              · clear hSw
                go_simp
              try simp only [Act.put, List.getElem_toArray, List.getElem_cons_succ, List.getElem_cons_zero, List.setIfInBounds_toArray, List.set_cons_zero, List.set_cons_succ]
              refine wpAnyH_take (i := 16) (v := .int .i64 (yp : Int)) rfl (by kernel_rfl) (by kernel_rfl) (by kernel_rfl) (fun _ _ _ h => h) (Or.inl ⟨by kernel_rfl, fun w' hSw => ?_⟩) (by with_reducible assumption) ?_
              · have s0 := grown_cell hSw HE19.out
                clear hSw
                go_simp
              try simp only [Act.put, List.getElem_toArray, List.getElem_cons_succ, List.getElem_cons_zero, List.setIfInBounds_toArray, List.set_cons_zero, List.set_cons_succ]
              refine wpAnyH_take (i := 17) (v := .pointer (some ⟨g3, yp, none⟩)) rfl (by kernel_rfl) (by kernel_rfl) (by kernel_rfl) (fun _ _ _ h => h) (Or.inl ⟨by kernel_rfl, fun w' hSw => ?_⟩) (by with_reducible assumption) ?_
              · clear hSw
                go_simp
              try simp only [Act.put, List.getElem_toArray, List.getElem_cons_succ, List.getElem_cons_zero, List.setIfInBounds_toArray, List.set_cons_zero, List.set_cons_succ]
              refine wpAnyH_take (i := 18) (v := .slice ha hn9 hac) rfl (by kernel_rfl) (by kernel_rfl) (by kernel_rfl) (fun _ _ _ h => h) (Or.inl ⟨by kernel_rfl, fun w' hSw => ?_⟩) (by with_reducible assumption) ?_
              · have s0 := grown_cell hSw HHC.out
                clear hSw
                go_simp
              try simp only [Act.put, List.getElem_toArray, List.getElem_cons_succ, List.getElem_cons_zero, List.setIfInBounds_toArray, List.set_cons_zero, List.set_cons_succ]
              refine wpAnyH_ready (rs := [19]) (by kernel_rfl) (by simp) ?_
              refine AllReadyH.cons (i := 19) rfl (fun K hK => ?_) AllReadyH.nil
              go_simp
              go_wp2_with (go_at_call 16; refine (lWithin_yes va ha vn vc hn9 hac wl (Gl yp) _ HVN.out HHN.out (HVR.out.keep (drew_kept w8)) (HHR.out.keep (drew_kept w8)) HCL.out).mono ?_; rintro e w7 ⟨rfl, hw7⟩; subst hw7)
              refine hK.out _ _ (drew_kept w8) (fun hHeld2 => ?_)
              clear hK K hHeld
              have hHeld := hHeld2
              clear hHeld2
              try simp only [Act.put, List.setIfInBounds_toArray, List.set_cons_zero, List.set_cons_succ]
              refine wpAnyH_take (i := 20) (v := .bool false) rfl (by kernel_rfl) (by kernel_rfl) (by kernel_rfl) (fun _ _ _ h => h) (Or.inl ⟨by kernel_rfl, fun w' hSw => ?_⟩) (by with_reducible assumption) ?_
              · clear hSw
                go_simp
              try simp only [Act.put, List.getElem_toArray, List.getElem_cons_succ, List.getElem_cons_zero, List.setIfInBounds_toArray, List.set_cons_zero, List.set_cons_succ]
              refine wpAnyH_take (i := 21) (v := .bool false) rfl (by kernel_rfl) (by kernel_rfl) (by kernel_rfl) (fun _ _ _ h => h) (Or.inl ⟨by kernel_rfl, fun w' hSw => ?_⟩) (by with_reducible assumption) ?_
              · clear hSw
                go_simp
              try simp only [Act.put, List.getElem_toArray, List.getElem_cons_succ, List.getElem_cons_zero, List.setIfInBounds_toArray, List.set_cons_zero, List.set_cons_succ]
              refine wpAnyH_done (by kernel_rfl) ?_ _
              clear hHeld
              have HK89 := hide1 (drew_kept w8)
              clear HE08 HE18
              obtain ⟨w9, hw9⟩ : ∃ w9, w8.drew = w9 := ⟨_, rfl⟩
              rw [hw9] at HK89 ⊢
              clear hw9
              have HC9 := hide1 (HC8.out.keep HK89.out)
              have HPB9 := hide1 (HPB8.out.keep HK89.out)
              have HK79 := hide1 (gtrans HK78.out HK89.out)
              have HGC9 := hide1 (grown_cell HK79.out HGC.out)
              have HGR9 := hide1 (HGR.out.keep HK79.out)
              have HRR9 := hide1 (HRR.out.keep HK79.out)
              have HVR9 := hide1 (HVR.out.keep HK89.out)
              clear HGC HGR HRR HVR HC8 HPB8 HV HE0 HE1 HYY HYS HRT7 HK78 HK89
              go_upto_region 21 with fail
              as_aux_lemma =>
                refine wp_region_held_drew (S := fun X => Kept w9 X) (by kernel_rfl) (Kept.refl w9) (fun hHeld => ?_)
                refine wpAnyH_take (i := 0) (v := .agg #[.slice al nl cl, .slice an nn cn, .int .i64 (sn : Int), .slice (some ⟨cb, o2, none⟩) np cp]) rfl (by kernel_rfl) (by kernel_rfl) (by kernel_rfl) (fun _ _ _ h => h) (Or.inl ⟨by kernel_rfl, fun w' hSw => ?_⟩) (by with_reducible assumption) ?_
                · obtain ⟨s0, s1, s2, s3⟩ := (HC9.out.keep hSw).1.facts
                  clear hSw
                  go_simp
                try simp only [Act.put, List.getElem_toArray, List.getElem_cons_succ, List.getElem_cons_zero, List.setIfInBounds_toArray, List.set_cons_zero, List.set_cons_succ]
                refine wpAnyH_take (i := 1) (v := .slice rb2 rn rc2) rfl (by kernel_rfl) (by kernel_rfl) (by kernel_rfl) (fun _ _ _ h => h) (Or.inl ⟨by kernel_rfl, fun w' hSw => ?_⟩) (by with_reducible assumption) ?_
                · clear hSw
                  go_simp
                try simp only [Act.put, List.getElem_toArray, List.getElem_cons_succ, List.getElem_cons_zero, List.setIfInBounds_toArray, List.set_cons_zero, List.set_cons_succ]
                refine wpAnyH_take (i := 2) (v := .pointer (some ⟨tb, 2, none⟩)) rfl (by kernel_rfl) (by kernel_rfl) (by kernel_rfl) (fun _ _ _ h => h) (Or.inl ⟨by kernel_rfl, fun w' hSw => ?_⟩) (by with_reducible assumption) ?_
                · clear hSw
                  go_simp
                try simp only [Act.put, List.getElem_toArray, List.getElem_cons_succ, List.getElem_cons_zero, List.setIfInBounds_toArray, List.set_cons_zero, List.set_cons_succ]
                refine wpAnyH_take (i := 3) (v := .slice (some ⟨g3, 0, none⟩) nn nn) rfl (by kernel_rfl) (by kernel_rfl) (by kernel_rfl) (fun _ _ _ h => h) (Or.inl ⟨by kernel_rfl, fun w' hSw => ?_⟩) (by with_reducible assumption) ?_
                · obtain ⟨f0, f1, f2, f3, f4⟩ := (TdBox.cells (HC9.out.keep hSw).2.1).1
                  clear hSw
                  go_simp
                try simp only [Act.put, List.getElem_toArray, List.getElem_cons_succ, List.getElem_cons_zero, List.setIfInBounds_toArray, List.set_cons_zero, List.set_cons_succ]
                refine wpAnyH_take (i := 4) (v := .pointer (some ⟨pb, 0, none⟩)) rfl (by kernel_rfl) (by kernel_rfl) (by kernel_rfl) (fun _ _ _ h => h) (Or.inl ⟨by kernel_rfl, fun w' hSw => ?_⟩) (by with_reducible assumption) ?_
                · clear hSw
                  go_simp
                try simp only [Act.put, List.getElem_toArray, List.getElem_cons_succ, List.getElem_cons_zero, List.setIfInBounds_toArray, List.set_cons_zero, List.set_cons_succ]
                refine wpAnyH_take (i := 5) (v := .int .i64 (pl : Int)) rfl (by kernel_rfl) (by kernel_rfl) (by kernel_rfl) (fun _ _ _ h => h) (Or.inl ⟨by kernel_rfl, fun w' hSw => ?_⟩) (by with_reducible assumption) ?_
                · have s0 := (HPB9.out.keep hSw).cells.1
                  clear hSw
                  go_simp
                try simp only [Act.put, List.getElem_toArray, List.getElem_cons_succ, List.getElem_cons_zero, List.setIfInBounds_toArray, List.set_cons_zero, List.set_cons_succ]
                refine wpAnyH_take (i := 6) (v := .pointer (some ⟨g3, pl, none⟩)) rfl (by kernel_rfl) (by kernel_rfl) (by kernel_rfl) (fun _ _ _ h => h) (Or.inl ⟨by kernel_rfl, fun w' hSw => ?_⟩) (by with_reducible assumption) ?_
                · clear hSw
                  go_simp
                try simp only [Act.put, List.getElem_toArray, List.getElem_cons_succ, List.getElem_cons_zero, List.setIfInBounds_toArray, List.set_cons_zero, List.set_cons_succ]
                refine wpAnyH_take (i := 7) (v := .slice ga gn gc) rfl (by kernel_rfl) (by kernel_rfl) (by kernel_rfl) (fun _ _ _ h => h) (Or.inl ⟨by kernel_rfl, fun w' hSw => ?_⟩) (by with_reducible assumption) ?_
                · have s0 := grown_cell hSw HGC9.out
                  clear hSw
                  go_simp
                try simp only [Act.put, List.getElem_toArray, List.getElem_cons_succ, List.getElem_cons_zero, List.setIfInBounds_toArray, List.set_cons_zero, List.set_cons_succ]
                refine wpAnyH_ready (rs := [8, 12]) (by kernel_rfl) (by simp) ?_
                refine AllReadyH.cons (i := 8) rfl (fun K hK => ?_) (AllReadyH.cons (i := 12) rfl (fun K hK => ?_) AllReadyH.nil)
                · go_simp
                  go_wp2_with (go_at_call 18; refine (sHeads_is k lex ps al an _ rb2 ga nl cl nn cn np cp rn rc2 gn gc _ (p.2.drop (kk + 1)) (Gl pl) _ HNN.out HLEN.out HPS.out HRL.out HGN.out (HC9.out.keep (drew_kept w9)).2.2.2.2.2.1 (HC9.out.keep (drew_kept w9)).2.2.2.2.2.2.1 (HRR9.out.keep (drew_kept w9)) (HGR9.out.keep (drew_kept w9)) (HC9.out.keep (drew_kept w9)).2.2.2.2.2.2.2).mono ?_; intro e wa hwa; obtain ⟨v2, El, Fn, he, h1, h2, h3, h4, hka⟩ := heads_ok HQ0.out HRQ.out HTK.out hwa; subst he; rw [faultV_eq]; have HEl := hide1 h1; have HFn := hide1 h2; have HFi := hide1 h3; have HV2 := hide1 h4; have HKA := hide1 (gtrans (drew_kept w9) hka); have HKA0 := hide1 hka; clear h1 h2 h3 h4 hka hwa)
                  refine hK.out _ _ HKA.out (fun hHeld2 => ?_)
                  clear hK K hHeld
                  have hHeld := hHeld2
                  clear hHeld2
                  try simp only [Act.put, List.setIfInBounds_toArray, List.set_cons_zero, List.set_cons_succ]
                  refine wpAnyH_take (i := 9) (v := .tuple #[v2, .agg #[.int .i64 0, .int .i64 0, .string ⟨#[]⟩]]) rfl (by kernel_rfl) (by kernel_rfl) (by kernel_rfl) (fun _ _ _ h => h) (Or.inl ⟨by kernel_rfl, fun w' hSw => ?_⟩) (by with_reducible assumption) ?_
                  · clear hSw
                    go_simp
                  try simp only [Act.put, List.getElem_toArray, List.getElem_cons_succ, List.getElem_cons_zero, List.setIfInBounds_toArray, List.set_cons_zero, List.set_cons_succ]
                  refine wpAnyH_take (i := 10) (v := v2) rfl (by kernel_rfl) (by kernel_rfl) (by kernel_rfl) (fun _ _ _ h => h) (Or.inl ⟨by kernel_rfl, fun w' hSw => ?_⟩) (by with_reducible assumption) ?_
                  · clear hSw
                    go_simp
                  try simp only [Act.put, List.getElem_toArray, List.getElem_cons_succ, List.getElem_cons_zero, List.setIfInBounds_toArray, List.set_cons_zero, List.set_cons_succ]
                  refine wpAnyH_take (i := 11) (v := .agg #[.int .i64 0, .int .i64 0, .string ⟨#[]⟩]) rfl (by kernel_rfl) (by kernel_rfl) (by kernel_rfl) (fun _ _ _ h => h) (Or.inl ⟨by kernel_rfl, fun w' hSw => ?_⟩) (by with_reducible assumption) ?_
                  · clear hSw
                    go_simp
                  try simp only [Act.put, List.getElem_toArray, List.getElem_cons_succ, List.getElem_cons_zero, List.setIfInBounds_toArray, List.set_cons_zero, List.set_cons_succ]
                  refine wpAnyH_ready (rs := [12]) (by kernel_rfl) (by simp) ?_
                  refine AllReadyH.cons (i := 12) rfl (fun K hK => ?_) AllReadyH.nil
                  go_simp
                  refine hK.out _ _ (gtrans HKA.out ((Kept.refl wa).alloc _ _)) (fun hHeld2 => ?_)
                  clear hK K hHeld
                  have hHeld := hHeld2
                  clear hHeld2
                  try simp only [Act.put, List.setIfInBounds_toArray, List.set_cons_zero, List.set_cons_succ]
                  refine wpAnyH_take (i := 13) (v := v2) rfl (by kernel_rfl) (by kernel_rfl) (by kernel_rfl) (fun _ _ _ h => h) (Or.inl ⟨by kernel_rfl, fun w' hSw => ?_⟩) (by with_reducible assumption) ?_
                  · clear hSw
                    go_simp
                  try simp only [Act.put, List.getElem_toArray, List.getElem_cons_succ, List.getElem_cons_zero, List.setIfInBounds_toArray, List.set_cons_zero, List.set_cons_succ]
                  refine wpAnyH_ready (rs := [14]) (by kernel_rfl) (by simp) ?_
                  refine AllReadyH.cons (i := 14) rfl (fun K hK => ?_) AllReadyH.nil
                  go_simp
                  have HFX : Hid (FlBox (wa.alloc (.cells #[.int .i64 0, .int .i64 0, .string ⟨#[]⟩] 57)) wa.heap.size 0 0) := hide1 (FlBox.new wa)
                  have HKX : Hid (Kept wa (wa.alloc (.cells #[.int .i64 0, .int .i64 0, .string ⟨#[]⟩] 57))) := hide1 ((Kept.refl wa).alloc _ _)
                  have HV3 := hide1 (HV2.out.keep HKX.out)
                  have HK9X := hide1 (gtrans HKA.out HKX.out)
                  refine hK.out _ _ HK9X.out (fun hHeld2 => ?_)
                  clear hK K hHeld
                  have hHeld := hHeld2
                  clear hHeld2
                  try simp only [Act.put, List.setIfInBounds_toArray, List.set_cons_zero, List.set_cons_succ]
                  refine wpAnyH_done (by kernel_rfl) ?_ _
                  clear hHeld
                  generalize wa.alloc (.cells #[.int .i64 0, .int .i64 0, .string ⟨#[]⟩] 57) = WX at HFX HKX HV3 HK9X ⊢
                  generalize wa.heap.size = fb at HFX ⊢
                  clear HKX HV2
                  obtain ⟨l2, hl2⟩ : ∃ l2, bitsTo (headsM nl El Fn (bitsL (Gl pl)) (p.2.drop (kk + 1)) 0) 128 = l2 := ⟨_, rfl⟩
                  have HSM : Hid (∀ z, z ∈ l2 ↔ z ∈ wl) := hide1 (fun z => by
                    rw [← hl2, ← HWL.out]
                    refine heads_same HE.out HF.out (HG.out pl) HEl.out HFn.out HFi.out (by omega) (bitsL_lt (fun z hz => ?_)) (fun x hx h3 => ?_) z
                    · have h := HTK.out z hz
                      exact ⟨h.1, by have := h.2.1; omega⟩
                    · have h := (term_sym HLEN.out (HSE.out x (List.mem_of_mem_drop hx)) h3).2.1
                      omega)
                  have HRS : Hid (RisL l2) := hide1 (by rw [← hl2]; exact bits_rising _ _)
                  have HL28 : Hid (l2.length ≤ 128) := hide1 (by rw [← hl2]; exact bitsTo_len _ _)
                  rw [hl2] at HV3
                  clear hl2
                  obtain ⟨qa, qc, hq2⟩ := HV3.out.form
                  subst hq2
                  obtain ⟨qn, hqn⟩ : ∃ qn, l2.length = qn := ⟨_, rfl⟩
                  rw [hqn] at HV3 ⊢
                  have HQN := hide1 hqn
                  have HQR := hide1 (HV3.out.read (by have := HL28.out; omega))
                  have HVX := hide1 (HVR9.out.keep HK9X.out)
                  have x0 := HFX.out.cells.1.1
                  clear hqn
                  go_wp2_with fail
                  refine (rising_q qa qn qc _ ⟨l2, HQR.out, HRS.out⟩).mono ?_
                  rintro e wy ⟨rfl, qq, hwy⟩
                  have HKY : Hid (Kept WX wy) := hide1 (by rw [hwy]; exact drewN_kept _ _)
                  clear hwy x0
                  go_wp2_with fail
                  refine (lWithin_yes qa va qn qc vn vc l2 wl _ HQN.out HVN.out (HQR.out.keep HKY.out) (HVX.out.keep HKY.out) (fun z hz => (HSM.out z).1 hz)).mono ?_
                  rintro e wz ⟨rfl, hwz⟩
                  have hwz := hwz.symm
                  subst hwz
                  go_wp2_with fail
                  refine (lWithin_yes va qa vn vc qn qc wl l2 _ HVN.out HQN.out (HVX.out.keep HKY.out) (HQR.out.keep HKY.out) (fun z hz => (HSM.out z).2 hz)).mono ?_
                  rintro e wz ⟨rfl, hwz⟩
                  have hwz := hwz.symm
                  subst hwz
                  go_wp2_with fail
                  exact ⟨⟨kk + 1, ClG_of _ (by kernel_rfl), by omega, hide1 (gtrans HK2.out (gtrans HK79.out (gtrans HK9X.out HKY.out)))⟩, by simp [intOf]; omega⟩
                · go_simp
                  have HKZ : Hid (Kept w9 (w9.alloc (.cells #[.int .i64 0, .int .i64 0, .string ⟨#[]⟩] 57)).drew) := hide1 (gtrans ((Kept.refl w9).alloc _ _) (drew_kept _))
                  have HFZ : Hid (FlBox (w9.alloc (.cells #[.int .i64 0, .int .i64 0, .string ⟨#[]⟩] 57)).drew w9.heap.size 0 0) := hide1 ((FlBox.new w9).keep (drew_kept _))
                  refine hK.out _ _ HKZ.out (fun hHeld2 => ?_)
                  clear hK K hHeld
                  have hHeld := hHeld2
                  clear hHeld2
                  try simp only [Act.put, List.setIfInBounds_toArray, List.set_cons_zero, List.set_cons_succ]
                  refine wpAnyH_ready (rs := [8]) (by kernel_rfl) (by simp) ?_
                  refine AllReadyH.cons (i := 8) rfl (fun K hK => ?_) AllReadyH.nil
                  go_simp
                  go_wp2_with (go_at_call 18; refine (sHeads_is k lex ps al an _ rb2 ga nl cl nn cn np cp rn rc2 gn gc _ (p.2.drop (kk + 1)) (Gl pl) _ HNN.out HLEN.out HPS.out HRL.out HGN.out (HC9.out.keep HKZ.out).2.2.2.2.2.1 (HC9.out.keep HKZ.out).2.2.2.2.2.2.1 (HRR9.out.keep HKZ.out) (HGR9.out.keep HKZ.out) (HC9.out.keep HKZ.out).2.2.2.2.2.2.2).mono ?_; intro e wa hwa; obtain ⟨v2, El, Fn, he, h1, h2, h3, h4, hka⟩ := heads_ok HQ0.out HRQ.out HTK.out hwa; subst he; rw [faultV_eq]; have HEl := hide1 h1; have HFn := hide1 h2; have HFi := hide1 h3; have HV2 := hide1 h4; have HKA := hide1 (gtrans HKZ.out hka); have HKA0 := hide1 hka; clear h1 h2 h3 h4 hka hwa)
                  refine hK.out _ _ HKA.out (fun hHeld2 => ?_)
                  clear hK K hHeld
                  have hHeld := hHeld2
                  clear hHeld2
                  try simp only [Act.put, List.setIfInBounds_toArray, List.set_cons_zero, List.set_cons_succ]
                  refine wpAnyH_take (i := 9) (v := .tuple #[v2, .agg #[.int .i64 0, .int .i64 0, .string ⟨#[]⟩]]) rfl (by kernel_rfl) (by kernel_rfl) (by kernel_rfl) (fun _ _ _ h => h) (Or.inl ⟨by kernel_rfl, fun w' hSw => ?_⟩) (by with_reducible assumption) ?_
                  · clear hSw
                    go_simp
                  try simp only [Act.put, List.getElem_toArray, List.getElem_cons_succ, List.getElem_cons_zero, List.setIfInBounds_toArray, List.set_cons_zero, List.set_cons_succ]
                  refine wpAnyH_take (i := 10) (v := v2) rfl (by kernel_rfl) (by kernel_rfl) (by kernel_rfl) (fun _ _ _ h => h) (Or.inl ⟨by kernel_rfl, fun w' hSw => ?_⟩) (by with_reducible assumption) ?_
                  · clear hSw
                    go_simp
                  try simp only [Act.put, List.getElem_toArray, List.getElem_cons_succ, List.getElem_cons_zero, List.setIfInBounds_toArray, List.set_cons_zero, List.set_cons_succ]
                  refine wpAnyH_take (i := 11) (v := .agg #[.int .i64 0, .int .i64 0, .string ⟨#[]⟩]) rfl (by kernel_rfl) (by kernel_rfl) (by kernel_rfl) (fun _ _ _ h => h) (Or.inl ⟨by kernel_rfl, fun w' hSw => ?_⟩) (by with_reducible assumption) ?_
                  · clear hSw
                    go_simp
                  try simp only [Act.put, List.getElem_toArray, List.getElem_cons_succ, List.getElem_cons_zero, List.setIfInBounds_toArray, List.set_cons_zero, List.set_cons_succ]
                  refine wpAnyH_take (i := 13) (v := v2) rfl (by kernel_rfl) (by kernel_rfl) (by kernel_rfl) (fun _ _ _ h => h) (Or.inl ⟨by kernel_rfl, fun w' hSw => ?_⟩) (by with_reducible assumption) ?_
                  · clear hSw
                    go_simp
                  try simp only [Act.put, List.getElem_toArray, List.getElem_cons_succ, List.getElem_cons_zero, List.setIfInBounds_toArray, List.set_cons_zero, List.set_cons_succ]
                  refine wpAnyH_ready (rs := [14]) (by kernel_rfl) (by simp) ?_
                  refine AllReadyH.cons (i := 14) rfl (fun K hK => ?_) AllReadyH.nil
                  have HFA := hide1 (HFZ.out.keep HKA0.out)
                  obtain ⟨⟨x0, x1, x2⟩, z0, z1, z2⟩ := HFA.out.cells
                  go_simp
                  clear x0 x1 x2 z0 z1 z2
                  have HFX := hide1 (HFA.out.fill 0 0)
                  have HK9X : Hid (Kept w9 (((wa.setCell ⟨w9.heap.size, 0, none⟩ (.int .i64 0)).setCell ⟨w9.heap.size, 1, none⟩ (.int .i64 0)).setCell ⟨w9.heap.size, 2, none⟩ (.string ⟨#[]⟩))) := hide1 (keepB (keepB (keepB HKA.out (Nat.le_refl _)) (Nat.le_refl _)) (Nat.le_refl _))
                  have HV3 : Hid (IntsO (((wa.setCell ⟨w9.heap.size, 0, none⟩ (.int .i64 0)).setCell ⟨w9.heap.size, 1, none⟩ (.int .i64 0)).setCell ⟨w9.heap.size, 2, none⟩ (.string ⟨#[]⟩)) (w9.alloc (.cells #[.int .i64 0, .int .i64 0, .string ⟨#[]⟩] 57)).drew.heap.size v2 _) := hide1 (owns_same HV2.out (fun d hd => by have h1 := (HV2.out.lt d hd).1; have h2 : w9.heap.size < (w9.alloc (.cells #[.int .i64 0, .int .i64 0, .string ⟨#[]⟩] 57)).drew.heap.size := HFZ.out.lt; exact (heap_set_ne (by omega)).trans ((heap_set_ne (by omega)).trans (heap_set_ne (by omega)))))
                  refine hK.out _ _ HK9X.out (fun hHeld2 => ?_)
                  clear hK K hHeld
                  have hHeld := hHeld2
                  clear hHeld2
                  try simp only [Act.put, List.setIfInBounds_toArray, List.set_cons_zero, List.set_cons_succ]
                  refine wpAnyH_done (by kernel_rfl) ?_ _
                  clear hHeld
                  generalize (((wa.setCell ⟨w9.heap.size, 0, none⟩ (.int .i64 0)).setCell ⟨w9.heap.size, 1, none⟩ (.int .i64 0)).setCell ⟨w9.heap.size, 2, none⟩ (.string ⟨#[]⟩)) = WX at HFX HV3 HK9X ⊢
                  clear HFA HV2
                  generalize w9.heap.size = fb at HFX ⊢
                  obtain ⟨l2, hl2⟩ : ∃ l2, bitsTo (headsM nl El Fn (bitsL (Gl pl)) (p.2.drop (kk + 1)) 0) 128 = l2 := ⟨_, rfl⟩
                  have HSM : Hid (∀ z, z ∈ l2 ↔ z ∈ wl) := hide1 (fun z => by
                    rw [← hl2, ← HWL.out]
                    refine heads_same HE.out HF.out (HG.out pl) HEl.out HFn.out HFi.out (by omega) (bitsL_lt (fun z hz => ?_)) (fun x hx h3 => ?_) z
                    · have h := HTK.out z hz
                      exact ⟨h.1, by have := h.2.1; omega⟩
                    · have h := (term_sym HLEN.out (HSE.out x (List.mem_of_mem_drop hx)) h3).2.1
                      omega)
                  have HRS : Hid (RisL l2) := hide1 (by rw [← hl2]; exact bits_rising _ _)
                  have HL28 : Hid (l2.length ≤ 128) := hide1 (by rw [← hl2]; exact bitsTo_len _ _)
                  rw [hl2] at HV3
                  clear hl2
                  obtain ⟨qa, qc, hq2⟩ := HV3.out.form
                  subst hq2
                  obtain ⟨qn, hqn⟩ : ∃ qn, l2.length = qn := ⟨_, rfl⟩
                  rw [hqn] at HV3 ⊢
                  have HQN := hide1 hqn
                  have HQR := hide1 (HV3.out.read (by have := HL28.out; omega))
                  have HVX := hide1 (HVR9.out.keep HK9X.out)
                  have x0 := HFX.out.cells.1.1
                  clear hqn
                  go_wp2_with fail
                  refine (rising_q qa qn qc _ ⟨l2, HQR.out, HRS.out⟩).mono ?_
                  rintro e wy ⟨rfl, qq, hwy⟩
                  have HKY : Hid (Kept WX wy) := hide1 (by rw [hwy]; exact drewN_kept _ _)
                  clear hwy x0
                  go_wp2_with fail
                  refine (lWithin_yes qa va qn qc vn vc l2 wl _ HQN.out HVN.out (HQR.out.keep HKY.out) (HVX.out.keep HKY.out) (fun z hz => (HSM.out z).1 hz)).mono ?_
                  rintro e wz ⟨rfl, hwz⟩
                  have hwz := hwz.symm
                  subst hwz
                  go_wp2_with fail
                  refine (lWithin_yes va qa vn vc qn qc wl l2 _ HVN.out HQN.out (HVX.out.keep HKY.out) (HQR.out.keep HKY.out) (fun z hz => (HSM.out z).2 hz)).mono ?_
                  rintro e wz ⟨rfl, hwz⟩
                  have hwz := hwz.symm
                  subst hwz
                  go_wp2_with fail
                  exact ⟨⟨kk + 1, ClG_of _ (by kernel_rfl), by omega, hide1 (gtrans HK2.out (gtrans HK79.out (gtrans HK9X.out HKY.out)))⟩, by simp [intOf]; omega⟩
            · have hb3 : (yk == 3) = false := by simpa using h3
              refine wp_region_held_drew (S := fun X => Kept w8 X) (by kernel_rfl) (Kept.refl w8) (fun hHeld => ?_)
              refine wpAnyH_take (i := 0) (v := .pointer (some ⟨pb, 1, none⟩)) rfl (by kernel_rfl) (by kernel_rfl) (by kernel_rfl) (fun _ _ _ h => h) (Or.inl ⟨by kernel_rfl, fun w' hSw => ?_⟩) (by with_reducible assumption) ?_
              · clear hSw
                go_simp
              try simp only [Act.put, List.getElem_toArray, List.getElem_cons_succ, List.getElem_cons_zero, List.setIfInBounds_toArray, List.set_cons_zero, List.set_cons_succ]
              refine wpAnyH_take (i := 1) (v := .slice (some ⟨rb, ro, none⟩) nr rc) rfl (by kernel_rfl) (by kernel_rfl) (by kernel_rfl) (fun _ _ _ h => h) (Or.inl ⟨by kernel_rfl, fun w' hSw => ?_⟩) (by with_reducible assumption) ?_
              · have s0 := (HPB8.out.keep hSw).cells.2
                clear hSw
                go_simp
              try simp only [Act.put, List.getElem_toArray, List.getElem_cons_succ, List.getElem_cons_zero, List.setIfInBounds_toArray, List.set_cons_zero, List.set_cons_succ]
              refine wpAnyH_take (i := 2) (v := .int .i64 (kk : Int)) rfl (by kernel_rfl) (by kernel_rfl) (by kernel_rfl) (fun _ _ _ h => h) (Or.inl ⟨by kernel_rfl, fun w' hSw => ?_⟩) (by with_reducible assumption) ?_
              · clear hSw
                go_simp
              try simp only [Act.put, List.getElem_toArray, List.getElem_cons_succ, List.getElem_cons_zero, List.setIfInBounds_toArray, List.set_cons_zero, List.set_cons_succ]
              refine wpAnyH_take (i := 3) (v := .pointer (some ⟨rb, ro + kk * 2, none⟩)) rfl (by kernel_rfl) (by kernel_rfl) (by kernel_rfl) (fun _ _ _ h => h) (Or.inl ⟨by kernel_rfl, fun w' hSw => ?_⟩) (by with_reducible assumption) ?_
              · clear hSw
                go_simp
              try simp only [Act.put, List.getElem_toArray, List.getElem_cons_succ, List.getElem_cons_zero, List.setIfInBounds_toArray, List.set_cons_zero, List.set_cons_succ]
              refine wpAnyH_take (i := 4) (v := .pointer (some ⟨rb, ro + kk * 2, none⟩)) rfl (by kernel_rfl) (by kernel_rfl) (by kernel_rfl) (fun _ _ _ h => h) (Or.inl ⟨by kernel_rfl, fun w' hSw => ?_⟩) (by with_reducible assumption) ?_
              · clear hSw
                go_simp
              try simp only [Act.put, List.getElem_toArray, List.getElem_cons_succ, List.getElem_cons_zero, List.setIfInBounds_toArray, List.set_cons_zero, List.set_cons_succ]
              refine wpAnyH_take (i := 5) (v := .int .i64 yk) rfl (by kernel_rfl) (by kernel_rfl) (by kernel_rfl) (fun _ _ _ h => h) (Or.inl ⟨by kernel_rfl, fun w' hSw => ?_⟩) (by with_reducible assumption) ?_
              · have s0 := grown_cell hSw HE08.out
                clear hSw
                go_simp
              try simp only [Act.put, List.getElem_toArray, List.getElem_cons_succ, List.getElem_cons_zero, List.setIfInBounds_toArray, List.set_cons_zero, List.set_cons_succ]
              refine wpAnyH_take (i := 6) (v := .bool false) rfl (by kernel_rfl) (by kernel_rfl) (by kernel_rfl) (fun _ _ _ h => h) (Or.inl ⟨by kernel_rfl, fun w' hSw => ?_⟩) (by with_reducible assumption) ?_
              · clear hSw
                go_simp
              try simp only [Act.put, List.getElem_toArray, List.getElem_cons_succ, List.getElem_cons_zero, List.setIfInBounds_toArray, List.set_cons_zero, List.set_cons_succ]
              refine wpAnyH_take (i := 7) (v := .bool false) rfl (by kernel_rfl) (by kernel_rfl) (by kernel_rfl) (fun _ _ _ h => h) (Or.inl ⟨by kernel_rfl, fun w' hSw => ?_⟩) (by with_reducible assumption) ?_
              · clear hSw
                go_simp
              try simp only [Act.put, List.getElem_toArray, List.getElem_cons_succ, List.getElem_cons_zero, List.setIfInBounds_toArray, List.set_cons_zero, List.set_cons_succ]
              refine wpAnyH_take (i := 8) (v := undef) rfl (by kernel_rfl) (by kernel_rfl) (by kernel_rfl) (fun _ _ _ h => h) (Or.inr ⟨by kernel_rfl, rfl⟩) (by with_reducible assumption) ?_
              try simp only [Act.put, List.getElem_toArray, List.getElem_cons_succ, List.getElem_cons_zero, List.setIfInBounds_toArray, List.set_cons_zero, List.set_cons_succ]
              refine wpAnyH_take (i := 9) (v := undef) rfl (by kernel_rfl) (by kernel_rfl) (by kernel_rfl) (fun _ _ _ h => h) (Or.inr ⟨by kernel_rfl, rfl⟩) (by with_reducible assumption) ?_
              try simp only [Act.put, List.getElem_toArray, List.getElem_cons_succ, List.getElem_cons_zero, List.setIfInBounds_toArray, List.set_cons_zero, List.set_cons_succ]
              refine wpAnyH_take (i := 10) (v := undef) rfl (by kernel_rfl) (by kernel_rfl) (by kernel_rfl) (fun _ _ _ h => h) (Or.inr ⟨by kernel_rfl, rfl⟩) (by with_reducible assumption) ?_
              try simp only [Act.put, List.getElem_toArray, List.getElem_cons_succ, List.getElem_cons_zero, List.setIfInBounds_toArray, List.set_cons_zero, List.set_cons_succ]
              refine wpAnyH_take (i := 11) (v := undef) rfl (by kernel_rfl) (by kernel_rfl) (by kernel_rfl) (fun _ _ _ h => h) (Or.inr ⟨by kernel_rfl, rfl⟩) (by with_reducible assumption) ?_
              try simp only [Act.put, List.getElem_toArray, List.getElem_cons_succ, List.getElem_cons_zero, List.setIfInBounds_toArray, List.set_cons_zero, List.set_cons_succ]
              refine wpAnyH_take (i := 12) (v := undef) rfl (by kernel_rfl) (by kernel_rfl) (by kernel_rfl) (fun _ _ _ h => h) (Or.inr ⟨by kernel_rfl, rfl⟩) (by with_reducible assumption) ?_
              try simp only [Act.put, List.getElem_toArray, List.getElem_cons_succ, List.getElem_cons_zero, List.setIfInBounds_toArray, List.set_cons_zero, List.set_cons_succ]
              refine wpAnyH_take (i := 13) (v := undef) rfl (by kernel_rfl) (by kernel_rfl) (by kernel_rfl) (fun _ _ _ h => h) (Or.inr ⟨by kernel_rfl, rfl⟩) (by with_reducible assumption) ?_
              try simp only [Act.put, List.getElem_toArray, List.getElem_cons_succ, List.getElem_cons_zero, List.setIfInBounds_toArray, List.set_cons_zero, List.set_cons_succ]
              refine wpAnyH_take (i := 14) (v := undef) rfl (by kernel_rfl) (by kernel_rfl) (by kernel_rfl) (fun _ _ _ h => h) (Or.inr ⟨by kernel_rfl, rfl⟩) (by with_reducible assumption) ?_
              try simp only [Act.put, List.getElem_toArray, List.getElem_cons_succ, List.getElem_cons_zero, List.setIfInBounds_toArray, List.set_cons_zero, List.set_cons_succ]
              refine wpAnyH_take (i := 15) (v := undef) rfl (by kernel_rfl) (by kernel_rfl) (by kernel_rfl) (fun _ _ _ h => h) (Or.inr ⟨by kernel_rfl, rfl⟩) (by with_reducible assumption) ?_
              try simp only [Act.put, List.getElem_toArray, List.getElem_cons_succ, List.getElem_cons_zero, List.setIfInBounds_toArray, List.set_cons_zero, List.set_cons_succ]
              refine wpAnyH_take (i := 16) (v := undef) rfl (by kernel_rfl) (by kernel_rfl) (by kernel_rfl) (fun _ _ _ h => h) (Or.inr ⟨by kernel_rfl, rfl⟩) (by with_reducible assumption) ?_
              try simp only [Act.put, List.getElem_toArray, List.getElem_cons_succ, List.getElem_cons_zero, List.setIfInBounds_toArray, List.set_cons_zero, List.set_cons_succ]
              refine wpAnyH_take (i := 17) (v := undef) rfl (by kernel_rfl) (by kernel_rfl) (by kernel_rfl) (fun _ _ _ h => h) (Or.inr ⟨by kernel_rfl, rfl⟩) (by with_reducible assumption) ?_
              try simp only [Act.put, List.getElem_toArray, List.getElem_cons_succ, List.getElem_cons_zero, List.setIfInBounds_toArray, List.set_cons_zero, List.set_cons_succ]
              refine wpAnyH_take (i := 18) (v := undef) rfl (by kernel_rfl) (by kernel_rfl) (by kernel_rfl) (fun _ _ _ h => h) (Or.inr ⟨by kernel_rfl, rfl⟩) (by with_reducible assumption) ?_
              try simp only [Act.put, List.getElem_toArray, List.getElem_cons_succ, List.getElem_cons_zero, List.setIfInBounds_toArray, List.set_cons_zero, List.set_cons_succ]
              refine wpAnyH_take (i := 19) (v := undef) rfl (by kernel_rfl) (by kernel_rfl) (by kernel_rfl) (fun _ _ _ h => h) (Or.inr ⟨by kernel_rfl, rfl⟩) (by with_reducible assumption) ?_
              try simp only [Act.put, List.getElem_toArray, List.getElem_cons_succ, List.getElem_cons_zero, List.setIfInBounds_toArray, List.set_cons_zero, List.set_cons_succ]
              refine wpAnyH_take (i := 20) (v := undef) rfl (by kernel_rfl) (by kernel_rfl) (by kernel_rfl) (fun _ _ _ h => h) (Or.inr ⟨by kernel_rfl, rfl⟩) (by with_reducible assumption) ?_
              try simp only [Act.put, List.getElem_toArray, List.getElem_cons_succ, List.getElem_cons_zero, List.setIfInBounds_toArray, List.set_cons_zero, List.set_cons_succ]
              refine wpAnyH_take (i := 21) (v := .bool false) rfl (by kernel_rfl) (by kernel_rfl) (by kernel_rfl) (fun _ _ _ h => h) (Or.inl ⟨by kernel_rfl, fun w' hSw => ?_⟩) (by with_reducible assumption) ?_
              · clear hSw
                go_simp
              try simp only [Act.put, List.getElem_toArray, List.getElem_cons_succ, List.getElem_cons_zero, List.setIfInBounds_toArray, List.set_cons_zero, List.set_cons_succ]
              refine wpAnyH_done (by kernel_rfl) ?_ _
              clear hHeld
              have HK89 := hide1 (drew_kept w8)
              clear HE08 HE18
              obtain ⟨w9, hw9⟩ : ∃ w9, w8.drew = w9 := ⟨_, rfl⟩
              rw [hw9] at HK89 ⊢
              clear hw9
              have HC9 := hide1 (HC8.out.keep HK89.out)
              have HPB9 := hide1 (HPB8.out.keep HK89.out)
              have HK79 := hide1 (gtrans HK78.out HK89.out)
              have HGC9 := hide1 (grown_cell HK79.out HGC.out)
              have HGR9 := hide1 (HGR.out.keep HK79.out)
              have HRR9 := hide1 (HRR.out.keep HK79.out)
              have HVR9 := hide1 (HVR.out.keep HK89.out)
              clear HGC HGR HRR HVR HC8 HPB8 HV HE0 HE1 HYY HYS HRT7 HK78 HK89
              go_upto_region 21 with fail
              as_aux_lemma =>
                refine wp_region_held_drew (S := fun X => Kept w9 X) (by kernel_rfl) (Kept.refl w9) (fun hHeld => ?_)
                refine wpAnyH_take (i := 0) (v := .agg #[.slice al nl cl, .slice an nn cn, .int .i64 (sn : Int), .slice (some ⟨cb, o2, none⟩) np cp]) rfl (by kernel_rfl) (by kernel_rfl) (by kernel_rfl) (fun _ _ _ h => h) (Or.inl ⟨by kernel_rfl, fun w' hSw => ?_⟩) (by with_reducible assumption) ?_
                · obtain ⟨s0, s1, s2, s3⟩ := (HC9.out.keep hSw).1.facts
                  clear hSw
                  go_simp
                try simp only [Act.put, List.getElem_toArray, List.getElem_cons_succ, List.getElem_cons_zero, List.setIfInBounds_toArray, List.set_cons_zero, List.set_cons_succ]
                refine wpAnyH_take (i := 1) (v := .slice rb2 rn rc2) rfl (by kernel_rfl) (by kernel_rfl) (by kernel_rfl) (fun _ _ _ h => h) (Or.inl ⟨by kernel_rfl, fun w' hSw => ?_⟩) (by with_reducible assumption) ?_
                · clear hSw
                  go_simp
                try simp only [Act.put, List.getElem_toArray, List.getElem_cons_succ, List.getElem_cons_zero, List.setIfInBounds_toArray, List.set_cons_zero, List.set_cons_succ]
                refine wpAnyH_take (i := 2) (v := .pointer (some ⟨tb, 2, none⟩)) rfl (by kernel_rfl) (by kernel_rfl) (by kernel_rfl) (fun _ _ _ h => h) (Or.inl ⟨by kernel_rfl, fun w' hSw => ?_⟩) (by with_reducible assumption) ?_
                · clear hSw
                  go_simp
                try simp only [Act.put, List.getElem_toArray, List.getElem_cons_succ, List.getElem_cons_zero, List.setIfInBounds_toArray, List.set_cons_zero, List.set_cons_succ]
                refine wpAnyH_take (i := 3) (v := .slice (some ⟨g3, 0, none⟩) nn nn) rfl (by kernel_rfl) (by kernel_rfl) (by kernel_rfl) (fun _ _ _ h => h) (Or.inl ⟨by kernel_rfl, fun w' hSw => ?_⟩) (by with_reducible assumption) ?_
                · obtain ⟨f0, f1, f2, f3, f4⟩ := (TdBox.cells (HC9.out.keep hSw).2.1).1
                  clear hSw
                  go_simp
                try simp only [Act.put, List.getElem_toArray, List.getElem_cons_succ, List.getElem_cons_zero, List.setIfInBounds_toArray, List.set_cons_zero, List.set_cons_succ]
                refine wpAnyH_take (i := 4) (v := .pointer (some ⟨pb, 0, none⟩)) rfl (by kernel_rfl) (by kernel_rfl) (by kernel_rfl) (fun _ _ _ h => h) (Or.inl ⟨by kernel_rfl, fun w' hSw => ?_⟩) (by with_reducible assumption) ?_
                · clear hSw
                  go_simp
                try simp only [Act.put, List.getElem_toArray, List.getElem_cons_succ, List.getElem_cons_zero, List.setIfInBounds_toArray, List.set_cons_zero, List.set_cons_succ]
                refine wpAnyH_take (i := 5) (v := .int .i64 (pl : Int)) rfl (by kernel_rfl) (by kernel_rfl) (by kernel_rfl) (fun _ _ _ h => h) (Or.inl ⟨by kernel_rfl, fun w' hSw => ?_⟩) (by with_reducible assumption) ?_
                · have s0 := (HPB9.out.keep hSw).cells.1
                  clear hSw
                  go_simp
                try simp only [Act.put, List.getElem_toArray, List.getElem_cons_succ, List.getElem_cons_zero, List.setIfInBounds_toArray, List.set_cons_zero, List.set_cons_succ]
                refine wpAnyH_take (i := 6) (v := .pointer (some ⟨g3, pl, none⟩)) rfl (by kernel_rfl) (by kernel_rfl) (by kernel_rfl) (fun _ _ _ h => h) (Or.inl ⟨by kernel_rfl, fun w' hSw => ?_⟩) (by with_reducible assumption) ?_
                · clear hSw
                  go_simp
                try simp only [Act.put, List.getElem_toArray, List.getElem_cons_succ, List.getElem_cons_zero, List.setIfInBounds_toArray, List.set_cons_zero, List.set_cons_succ]
                refine wpAnyH_take (i := 7) (v := .slice ga gn gc) rfl (by kernel_rfl) (by kernel_rfl) (by kernel_rfl) (fun _ _ _ h => h) (Or.inl ⟨by kernel_rfl, fun w' hSw => ?_⟩) (by with_reducible assumption) ?_
                · have s0 := grown_cell hSw HGC9.out
                  clear hSw
                  go_simp
                try simp only [Act.put, List.getElem_toArray, List.getElem_cons_succ, List.getElem_cons_zero, List.setIfInBounds_toArray, List.set_cons_zero, List.set_cons_succ]
                refine wpAnyH_ready (rs := [8, 12]) (by kernel_rfl) (by simp) ?_
                refine AllReadyH.cons (i := 8) rfl (fun K hK => ?_) (AllReadyH.cons (i := 12) rfl (fun K hK => ?_) AllReadyH.nil)
                · go_simp
                  go_wp2_with (go_at_call 18; refine (sHeads_is k lex ps al an _ rb2 ga nl cl nn cn np cp rn rc2 gn gc _ (p.2.drop (kk + 1)) (Gl pl) _ HNN.out HLEN.out HPS.out HRL.out HGN.out (HC9.out.keep (drew_kept w9)).2.2.2.2.2.1 (HC9.out.keep (drew_kept w9)).2.2.2.2.2.2.1 (HRR9.out.keep (drew_kept w9)) (HGR9.out.keep (drew_kept w9)) (HC9.out.keep (drew_kept w9)).2.2.2.2.2.2.2).mono ?_; intro e wa hwa; obtain ⟨v2, El, Fn, he, h1, h2, h3, h4, hka⟩ := heads_ok HQ0.out HRQ.out HTK.out hwa; subst he; rw [faultV_eq]; have HEl := hide1 h1; have HFn := hide1 h2; have HFi := hide1 h3; have HV2 := hide1 h4; have HKA := hide1 (gtrans (drew_kept w9) hka); have HKA0 := hide1 hka; clear h1 h2 h3 h4 hka hwa)
                  refine hK.out _ _ HKA.out (fun hHeld2 => ?_)
                  clear hK K hHeld
                  have hHeld := hHeld2
                  clear hHeld2
                  try simp only [Act.put, List.setIfInBounds_toArray, List.set_cons_zero, List.set_cons_succ]
                  refine wpAnyH_take (i := 9) (v := .tuple #[v2, .agg #[.int .i64 0, .int .i64 0, .string ⟨#[]⟩]]) rfl (by kernel_rfl) (by kernel_rfl) (by kernel_rfl) (fun _ _ _ h => h) (Or.inl ⟨by kernel_rfl, fun w' hSw => ?_⟩) (by with_reducible assumption) ?_
                  · clear hSw
                    go_simp
                  try simp only [Act.put, List.getElem_toArray, List.getElem_cons_succ, List.getElem_cons_zero, List.setIfInBounds_toArray, List.set_cons_zero, List.set_cons_succ]
                  refine wpAnyH_take (i := 10) (v := v2) rfl (by kernel_rfl) (by kernel_rfl) (by kernel_rfl) (fun _ _ _ h => h) (Or.inl ⟨by kernel_rfl, fun w' hSw => ?_⟩) (by with_reducible assumption) ?_
                  · clear hSw
                    go_simp
                  try simp only [Act.put, List.getElem_toArray, List.getElem_cons_succ, List.getElem_cons_zero, List.setIfInBounds_toArray, List.set_cons_zero, List.set_cons_succ]
                  refine wpAnyH_take (i := 11) (v := .agg #[.int .i64 0, .int .i64 0, .string ⟨#[]⟩]) rfl (by kernel_rfl) (by kernel_rfl) (by kernel_rfl) (fun _ _ _ h => h) (Or.inl ⟨by kernel_rfl, fun w' hSw => ?_⟩) (by with_reducible assumption) ?_
                  · clear hSw
                    go_simp
                  try simp only [Act.put, List.getElem_toArray, List.getElem_cons_succ, List.getElem_cons_zero, List.setIfInBounds_toArray, List.set_cons_zero, List.set_cons_succ]
                  refine wpAnyH_ready (rs := [12]) (by kernel_rfl) (by simp) ?_
                  refine AllReadyH.cons (i := 12) rfl (fun K hK => ?_) AllReadyH.nil
                  go_simp
                  refine hK.out _ _ (gtrans HKA.out ((Kept.refl wa).alloc _ _)) (fun hHeld2 => ?_)
                  clear hK K hHeld
                  have hHeld := hHeld2
                  clear hHeld2
                  try simp only [Act.put, List.setIfInBounds_toArray, List.set_cons_zero, List.set_cons_succ]
                  refine wpAnyH_take (i := 13) (v := v2) rfl (by kernel_rfl) (by kernel_rfl) (by kernel_rfl) (fun _ _ _ h => h) (Or.inl ⟨by kernel_rfl, fun w' hSw => ?_⟩) (by with_reducible assumption) ?_
                  · clear hSw
                    go_simp
                  try simp only [Act.put, List.getElem_toArray, List.getElem_cons_succ, List.getElem_cons_zero, List.setIfInBounds_toArray, List.set_cons_zero, List.set_cons_succ]
                  refine wpAnyH_ready (rs := [14]) (by kernel_rfl) (by simp) ?_
                  refine AllReadyH.cons (i := 14) rfl (fun K hK => ?_) AllReadyH.nil
                  go_simp
                  have HFX : Hid (FlBox (wa.alloc (.cells #[.int .i64 0, .int .i64 0, .string ⟨#[]⟩] 57)) wa.heap.size 0 0) := hide1 (FlBox.new wa)
                  have HKX : Hid (Kept wa (wa.alloc (.cells #[.int .i64 0, .int .i64 0, .string ⟨#[]⟩] 57))) := hide1 ((Kept.refl wa).alloc _ _)
                  have HV3 := hide1 (HV2.out.keep HKX.out)
                  have HK9X := hide1 (gtrans HKA.out HKX.out)
                  refine hK.out _ _ HK9X.out (fun hHeld2 => ?_)
                  clear hK K hHeld
                  have hHeld := hHeld2
                  clear hHeld2
                  try simp only [Act.put, List.setIfInBounds_toArray, List.set_cons_zero, List.set_cons_succ]
                  refine wpAnyH_done (by kernel_rfl) ?_ _
                  clear hHeld
                  generalize wa.alloc (.cells #[.int .i64 0, .int .i64 0, .string ⟨#[]⟩] 57) = WX at HFX HKX HV3 HK9X ⊢
                  generalize wa.heap.size = fb at HFX ⊢
                  clear HKX HV2
                  obtain ⟨l2, hl2⟩ : ∃ l2, bitsTo (headsM nl El Fn (bitsL (Gl pl)) (p.2.drop (kk + 1)) 0) 128 = l2 := ⟨_, rfl⟩
                  have HSM : Hid (∀ z, z ∈ l2 ↔ z ∈ wl) := hide1 (fun z => by
                    rw [← hl2, ← HWL.out]
                    refine heads_same HE.out HF.out (HG.out pl) HEl.out HFn.out HFi.out (by omega) (bitsL_lt (fun z hz => ?_)) (fun x hx h3 => ?_) z
                    · have h := HTK.out z hz
                      exact ⟨h.1, by have := h.2.1; omega⟩
                    · have h := (term_sym HLEN.out (HSE.out x (List.mem_of_mem_drop hx)) h3).2.1
                      omega)
                  have HRS : Hid (RisL l2) := hide1 (by rw [← hl2]; exact bits_rising _ _)
                  have HL28 : Hid (l2.length ≤ 128) := hide1 (by rw [← hl2]; exact bitsTo_len _ _)
                  rw [hl2] at HV3
                  clear hl2
                  obtain ⟨qa, qc, hq2⟩ := HV3.out.form
                  subst hq2
                  obtain ⟨qn, hqn⟩ : ∃ qn, l2.length = qn := ⟨_, rfl⟩
                  rw [hqn] at HV3 ⊢
                  have HQN := hide1 hqn
                  have HQR := hide1 (HV3.out.read (by have := HL28.out; omega))
                  have HVX := hide1 (HVR9.out.keep HK9X.out)
                  have x0 := HFX.out.cells.1.1
                  clear hqn
                  go_wp2_with fail
                  refine (rising_q qa qn qc _ ⟨l2, HQR.out, HRS.out⟩).mono ?_
                  rintro e wy ⟨rfl, qq, hwy⟩
                  have HKY : Hid (Kept WX wy) := hide1 (by rw [hwy]; exact drewN_kept _ _)
                  clear hwy x0
                  go_wp2_with fail
                  refine (lWithin_yes qa va qn qc vn vc l2 wl _ HQN.out HVN.out (HQR.out.keep HKY.out) (HVX.out.keep HKY.out) (fun z hz => (HSM.out z).1 hz)).mono ?_
                  rintro e wz ⟨rfl, hwz⟩
                  have hwz := hwz.symm
                  subst hwz
                  go_wp2_with fail
                  refine (lWithin_yes va qa vn vc qn qc wl l2 _ HVN.out HQN.out (HVX.out.keep HKY.out) (HQR.out.keep HKY.out) (fun z hz => (HSM.out z).2 hz)).mono ?_
                  rintro e wz ⟨rfl, hwz⟩
                  have hwz := hwz.symm
                  subst hwz
                  go_wp2_with fail
                  exact ⟨⟨kk + 1, ClG_of _ (by kernel_rfl), by omega, hide1 (gtrans HK2.out (gtrans HK79.out (gtrans HK9X.out HKY.out)))⟩, by simp [intOf]; omega⟩
                · go_simp
                  have HKZ : Hid (Kept w9 (w9.alloc (.cells #[.int .i64 0, .int .i64 0, .string ⟨#[]⟩] 57)).drew) := hide1 (gtrans ((Kept.refl w9).alloc _ _) (drew_kept _))
                  have HFZ : Hid (FlBox (w9.alloc (.cells #[.int .i64 0, .int .i64 0, .string ⟨#[]⟩] 57)).drew w9.heap.size 0 0) := hide1 ((FlBox.new w9).keep (drew_kept _))
                  refine hK.out _ _ HKZ.out (fun hHeld2 => ?_)
                  clear hK K hHeld
                  have hHeld := hHeld2
                  clear hHeld2
                  try simp only [Act.put, List.setIfInBounds_toArray, List.set_cons_zero, List.set_cons_succ]
                  refine wpAnyH_ready (rs := [8]) (by kernel_rfl) (by simp) ?_
                  refine AllReadyH.cons (i := 8) rfl (fun K hK => ?_) AllReadyH.nil
                  go_simp
                  go_wp2_with (go_at_call 18; refine (sHeads_is k lex ps al an _ rb2 ga nl cl nn cn np cp rn rc2 gn gc _ (p.2.drop (kk + 1)) (Gl pl) _ HNN.out HLEN.out HPS.out HRL.out HGN.out (HC9.out.keep HKZ.out).2.2.2.2.2.1 (HC9.out.keep HKZ.out).2.2.2.2.2.2.1 (HRR9.out.keep HKZ.out) (HGR9.out.keep HKZ.out) (HC9.out.keep HKZ.out).2.2.2.2.2.2.2).mono ?_; intro e wa hwa; obtain ⟨v2, El, Fn, he, h1, h2, h3, h4, hka⟩ := heads_ok HQ0.out HRQ.out HTK.out hwa; subst he; rw [faultV_eq]; have HEl := hide1 h1; have HFn := hide1 h2; have HFi := hide1 h3; have HV2 := hide1 h4; have HKA := hide1 (gtrans HKZ.out hka); have HKA0 := hide1 hka; clear h1 h2 h3 h4 hka hwa)
                  refine hK.out _ _ HKA.out (fun hHeld2 => ?_)
                  clear hK K hHeld
                  have hHeld := hHeld2
                  clear hHeld2
                  try simp only [Act.put, List.setIfInBounds_toArray, List.set_cons_zero, List.set_cons_succ]
                  refine wpAnyH_take (i := 9) (v := .tuple #[v2, .agg #[.int .i64 0, .int .i64 0, .string ⟨#[]⟩]]) rfl (by kernel_rfl) (by kernel_rfl) (by kernel_rfl) (fun _ _ _ h => h) (Or.inl ⟨by kernel_rfl, fun w' hSw => ?_⟩) (by with_reducible assumption) ?_
                  · clear hSw
                    go_simp
                  try simp only [Act.put, List.getElem_toArray, List.getElem_cons_succ, List.getElem_cons_zero, List.setIfInBounds_toArray, List.set_cons_zero, List.set_cons_succ]
                  refine wpAnyH_take (i := 10) (v := v2) rfl (by kernel_rfl) (by kernel_rfl) (by kernel_rfl) (fun _ _ _ h => h) (Or.inl ⟨by kernel_rfl, fun w' hSw => ?_⟩) (by with_reducible assumption) ?_
                  · clear hSw
                    go_simp
                  try simp only [Act.put, List.getElem_toArray, List.getElem_cons_succ, List.getElem_cons_zero, List.setIfInBounds_toArray, List.set_cons_zero, List.set_cons_succ]
                  refine wpAnyH_take (i := 11) (v := .agg #[.int .i64 0, .int .i64 0, .string ⟨#[]⟩]) rfl (by kernel_rfl) (by kernel_rfl) (by kernel_rfl) (fun _ _ _ h => h) (Or.inl ⟨by kernel_rfl, fun w' hSw => ?_⟩) (by with_reducible assumption) ?_
                  · clear hSw
                    go_simp
                  try simp only [Act.put, List.getElem_toArray, List.getElem_cons_succ, List.getElem_cons_zero, List.setIfInBounds_toArray, List.set_cons_zero, List.set_cons_succ]
                  refine wpAnyH_take (i := 13) (v := v2) rfl (by kernel_rfl) (by kernel_rfl) (by kernel_rfl) (fun _ _ _ h => h) (Or.inl ⟨by kernel_rfl, fun w' hSw => ?_⟩) (by with_reducible assumption) ?_
                  · clear hSw
                    go_simp
                  try simp only [Act.put, List.getElem_toArray, List.getElem_cons_succ, List.getElem_cons_zero, List.setIfInBounds_toArray, List.set_cons_zero, List.set_cons_succ]
                  refine wpAnyH_ready (rs := [14]) (by kernel_rfl) (by simp) ?_
                  refine AllReadyH.cons (i := 14) rfl (fun K hK => ?_) AllReadyH.nil
                  have HFA := hide1 (HFZ.out.keep HKA0.out)
                  obtain ⟨⟨x0, x1, x2⟩, z0, z1, z2⟩ := HFA.out.cells
                  go_simp
                  clear x0 x1 x2 z0 z1 z2
                  have HFX := hide1 (HFA.out.fill 0 0)
                  have HK9X : Hid (Kept w9 (((wa.setCell ⟨w9.heap.size, 0, none⟩ (.int .i64 0)).setCell ⟨w9.heap.size, 1, none⟩ (.int .i64 0)).setCell ⟨w9.heap.size, 2, none⟩ (.string ⟨#[]⟩))) := hide1 (keepB (keepB (keepB HKA.out (Nat.le_refl _)) (Nat.le_refl _)) (Nat.le_refl _))
                  have HV3 : Hid (IntsO (((wa.setCell ⟨w9.heap.size, 0, none⟩ (.int .i64 0)).setCell ⟨w9.heap.size, 1, none⟩ (.int .i64 0)).setCell ⟨w9.heap.size, 2, none⟩ (.string ⟨#[]⟩)) (w9.alloc (.cells #[.int .i64 0, .int .i64 0, .string ⟨#[]⟩] 57)).drew.heap.size v2 _) := hide1 (owns_same HV2.out (fun d hd => by have h1 := (HV2.out.lt d hd).1; have h2 : w9.heap.size < (w9.alloc (.cells #[.int .i64 0, .int .i64 0, .string ⟨#[]⟩] 57)).drew.heap.size := HFZ.out.lt; exact (heap_set_ne (by omega)).trans ((heap_set_ne (by omega)).trans (heap_set_ne (by omega)))))
                  refine hK.out _ _ HK9X.out (fun hHeld2 => ?_)
                  clear hK K hHeld
                  have hHeld := hHeld2
                  clear hHeld2
                  try simp only [Act.put, List.setIfInBounds_toArray, List.set_cons_zero, List.set_cons_succ]
                  refine wpAnyH_done (by kernel_rfl) ?_ _
                  clear hHeld
                  generalize (((wa.setCell ⟨w9.heap.size, 0, none⟩ (.int .i64 0)).setCell ⟨w9.heap.size, 1, none⟩ (.int .i64 0)).setCell ⟨w9.heap.size, 2, none⟩ (.string ⟨#[]⟩)) = WX at HFX HV3 HK9X ⊢
                  clear HFA HV2
                  generalize w9.heap.size = fb at HFX ⊢
                  obtain ⟨l2, hl2⟩ : ∃ l2, bitsTo (headsM nl El Fn (bitsL (Gl pl)) (p.2.drop (kk + 1)) 0) 128 = l2 := ⟨_, rfl⟩
                  have HSM : Hid (∀ z, z ∈ l2 ↔ z ∈ wl) := hide1 (fun z => by
                    rw [← hl2, ← HWL.out]
                    refine heads_same HE.out HF.out (HG.out pl) HEl.out HFn.out HFi.out (by omega) (bitsL_lt (fun z hz => ?_)) (fun x hx h3 => ?_) z
                    · have h := HTK.out z hz
                      exact ⟨h.1, by have := h.2.1; omega⟩
                    · have h := (term_sym HLEN.out (HSE.out x (List.mem_of_mem_drop hx)) h3).2.1
                      omega)
                  have HRS : Hid (RisL l2) := hide1 (by rw [← hl2]; exact bits_rising _ _)
                  have HL28 : Hid (l2.length ≤ 128) := hide1 (by rw [← hl2]; exact bitsTo_len _ _)
                  rw [hl2] at HV3
                  clear hl2
                  obtain ⟨qa, qc, hq2⟩ := HV3.out.form
                  subst hq2
                  obtain ⟨qn, hqn⟩ : ∃ qn, l2.length = qn := ⟨_, rfl⟩
                  rw [hqn] at HV3 ⊢
                  have HQN := hide1 hqn
                  have HQR := hide1 (HV3.out.read (by have := HL28.out; omega))
                  have HVX := hide1 (HVR9.out.keep HK9X.out)
                  have x0 := HFX.out.cells.1.1
                  clear hqn
                  go_wp2_with fail
                  refine (rising_q qa qn qc _ ⟨l2, HQR.out, HRS.out⟩).mono ?_
                  rintro e wy ⟨rfl, qq, hwy⟩
                  have HKY : Hid (Kept WX wy) := hide1 (by rw [hwy]; exact drewN_kept _ _)
                  clear hwy x0
                  go_wp2_with fail
                  refine (lWithin_yes qa va qn qc vn vc l2 wl _ HQN.out HVN.out (HQR.out.keep HKY.out) (HVX.out.keep HKY.out) (fun z hz => (HSM.out z).1 hz)).mono ?_
                  rintro e wz ⟨rfl, hwz⟩
                  have hwz := hwz.symm
                  subst hwz
                  go_wp2_with fail
                  refine (lWithin_yes va qa vn vc qn qc wl l2 _ HVN.out HQN.out (HVX.out.keep HKY.out) (HQR.out.keep HKY.out) (fun z hz => (HSM.out z).2 hz)).mono ?_
                  rintro e wz ⟨rfl, hwz⟩
                  have hwz := hwz.symm
                  subst hwz
                  go_wp2_with fail
                  exact ⟨⟨kk + 1, ClG_of _ (by kernel_rfl), by omega, hide1 (gtrans HK2.out (gtrans HK79.out (gtrans HK9X.out HKY.out)))⟩, by simp [intOf]; omega⟩
          · obtain ⟨f0, f1, f2, f3, f4⟩ := (TdBox.cells HC7.out.2.1).1
            obtain ⟨p0, p1⟩ := HPB7.out.cells
            have HM7 := hide1 (HM6.out.keep HK2.out)
            have HK37 := hide1 (gtrans HKr6.out HK2.out)
            cases fl with
            | true =>
              go_wp2_with fail
              exact ⟨⟨i + 1, M, ClF_of _ (by kernel_rfl), by omega, HK37, HM7, HML, hide1 (fun h => by cases h)⟩, by simp [intOf]; omega⟩
            | false =>
              obtain ⟨hY, hall, hmn, yb, yo, hay, hyr⟩ := HL0.out rfl
              subst hay
              have hmn := hmn.symm
              subst hmn
              obtain ⟨s0, s1, s2, s3⟩ := HC7.out.1.facts
              have HYI := hide1 hY
              have HYR7 := hide1 (hyr.keep HK37.out)
              have HYM : Hid (yb ≠ mb) := hide1 (by
                obtain ⟨_, a, c, h, _⟩ := hyr pl hpln
                have h1 := World.block_lt_of_cell? w3 _ h
                have h2 := HMBE.out
                have h3 : yb < w3.heap.size := h1
                omega)
              have HTBM : Hid (tb ≠ mb) := hide1 (by
                have h1 : tb < w3.heap.size := TdBox.lt HC3.out.2.1
                have h2 := HMBE.out
                omega)
              have HPBM : Hid (pb ≠ mb) := hide1 (by have := HPBL.out; omega)
              have HYL : Hid (∀ n, ((L n).getD []).length ≤ 4096) := hide1 (fun n => by
                cases e : L n with
                | none => simp
                | some r => exact (HYI.out.1 n r e).2)
              have HNOT : Hid (shorter (yieldL nl (fun n => (L n).getD []) p.2) ((L pl).getD []) = false) := hide1 (by
                obtain ⟨r, hr⟩ := Option.isSome_iff_exists.1 (hall pl hpln)
                rw [hr]
                exact yield_not HYI.out HPP.out (fun x hx h3 => hall _ (by
                  rcases HSY.out x hx with h | h | h
                  · omega
                  · omega
                  · omega)) (by rw [HPLT.out]; exact hr))
              clear hY hall hyr
              go_upto_region 26 with (go_at_call 20; refine (tYield_is yb yo nn nl nn nn _ _ _ false (fun x => (L x).getD []) al cl _ _ _ (pl : Int) ra nr rc p.2 _ hn64 (Nat.le_refl _) (Nat.le_refl _) hnr HNR.out (HRT6.out.keep HK2.out) HSY.out HYR7.out).mono ?_; rintro e wa ⟨⟨v, rfl, hv⟩, hka⟩; have HV := hide1 hv; have HKa := hide1 hka; clear hv hka)
              clear f0 f1 f2 f3 f4 p0 p1 s0 s1 s2 s3
              obtain ⟨xa, xc, hv⟩ := HV.out.form
              subst hv
              obtain ⟨rl, hrl⟩ : ∃ rl, yieldL nl (fun x => (L x).getD []) p.2 = rl := ⟨_, rfl⟩
              have HRL : Hid (rl.length ≤ 65536) := hide1 (by
                rw [← hrl]
                have h := yieldL_len (nl := nl) HYL.out p.2
                have := HNR.out
                omega)
              have HRE := hide1 hrl
              rw [hrl] at HV HNOT ⊢
              clear hrl
              obtain ⟨xn, hxn⟩ : ∃ xn, rl.length = xn := ⟨_, rfl⟩
              rw [hxn] at HV ⊢
              have HXN := hide1 hxn
              have HXRa := hide1 (HV.out.read (by have := HRL.out; omega))
              clear hxn
              obtain ⟨hy4, ya, yc, hyc, hyr2⟩ := (HYR7.out.keep HKa.out) pl hpln
              obtain ⟨ys, hys⟩ : ∃ ys, (L pl).getD [] = ys := ⟨_, rfl⟩
              replace hy4 : ((L pl).getD []).length ≤ 4096 := hy4
              replace hyc : wa.cell? ⟨yb, yo + pl, none⟩ = some (.slice ya ((L pl).getD []).length yc) := hyc
              replace hyr2 : IntsR wa (.slice ya ((L pl).getD []).length yc) ((L pl).getD []) := hyr2
              rw [hys] at hy4 hyc hyr2 HNOT
              obtain ⟨yn, hyn⟩ : ∃ yn, ys.length = yn := ⟨_, rfl⟩
              rw [hyn] at hy4 hyc hyr2
              have HYS := hide1 hys
              have HYN := hide1 hyn
              have HYRa := hide1 hyr2
              have HPBa := hide1 (HPB7.out.keep HKa.out)
              have HCa := hide1 (HC7.out.keep HKa.out)
              obtain ⟨p0, p1⟩ := HPBa.out.cells
              obtain ⟨f0, f1, f2, f3, f4⟩ := (TdBox.cells HCa.out.2.1).1
              have HYCa := hide1 hyc
              clear hys hyn hyr2
              go_upto_region 28 with (go_at_call 14; refine (gLess_is xa ya xn xc yn yc rl ys _ HXN.out HYN.out HXRa.out HYRa.out).mono ?_; rintro e wb ⟨rfl, hkb⟩; rw [HNOT.out]; have HKab := hide1 hkb; clear hkb)
              clear f0 f1 f2 f3 f4 p0 p1 hyc
              have HPBb := hide1 (HPBa.out.keep HKab.out)
              have HTDb := hide1 (HCa.out.keep HKab.out).2.1
              have HYC := hide1 (grown_cell HKab.out HYCa.out)
              have HXR := hide1 (HXRa.out.keep HKab.out)
              have HYR := hide1 (HYRa.out.keep HKab.out)
              have HMt := hide1 (HM7.out.keep (gtrans HKa.out HKab.out))
              have HK3b := hide1 (gtrans HK37.out (gtrans HKa.out HKab.out))
              obtain ⟨mv, hmv⟩ : ∃ mv, M[pl]? = some mv := ⟨_, List.getElem?_eq_getElem (by have := HML.out; omega)⟩
              have HMV := hide1 hmv
              have HMC : Hid (wb.drew.cell? ⟨mb, pl, none⟩ = some (.bool mv)) := hide1 ((HMt.out.keep (drew_kept wb)).cell hmv)
              clear hmv HV HKa HKab HXRa HYRa HPBa HCa HYCa
              cases mv with
              | true =>
                as_aux_lemma =>
                  refine wp_region_held_drew (S := fun X => KeptBut mb wb X) (by kernel_rfl) (but_refl mb wb) (fun hHeld => ?_)
                  refine wpAnyH_take (i := 0) (v := .slice (some ⟨mb, 0, none⟩) nn nn) rfl (by kernel_rfl) (by kernel_rfl) (by kernel_rfl) (fun _ _ _ h => h) (Or.inl ⟨by kernel_rfl, fun w' hSw => ?_⟩) (by with_reducible assumption) ?_
                  · clear hSw
                    go_simp
                  try simp only [Act.put, List.getElem_toArray, List.getElem_cons_succ, List.getElem_cons_zero, List.setIfInBounds_toArray, List.set_cons_zero, List.set_cons_succ]
                  refine wpAnyH_take (i := 1) (v := .pointer (some ⟨pb, 0, none⟩)) rfl (by kernel_rfl) (by kernel_rfl) (by kernel_rfl) (fun _ _ _ h => h) (Or.inl ⟨by kernel_rfl, fun w' hSw => ?_⟩) (by with_reducible assumption) ?_
                  · clear hSw
                    go_simp
                  try simp only [Act.put, List.getElem_toArray, List.getElem_cons_succ, List.getElem_cons_zero, List.setIfInBounds_toArray, List.set_cons_zero, List.set_cons_succ]
                  refine wpAnyH_take (i := 2) (v := .int .i64 (pl : Int)) rfl (by kernel_rfl) (by kernel_rfl) (by kernel_rfl) (fun _ _ _ h => h) (Or.inl ⟨by kernel_rfl, fun w' hSw => ?_⟩) (by with_reducible assumption) ?_
                  · have s0 := (PBox.but HPBb.out hSw HPBM.out).cells.1
                    clear hSw
                    go_simp
                  try simp only [Act.put, List.getElem_toArray, List.getElem_cons_succ, List.getElem_cons_zero, List.setIfInBounds_toArray, List.set_cons_zero, List.set_cons_succ]
                  refine wpAnyH_take (i := 3) (v := .slice (some ⟨mb, 0, none⟩) nn nn) rfl (by kernel_rfl) (by kernel_rfl) (by kernel_rfl) (fun _ _ _ h => h) (Or.inl ⟨by kernel_rfl, fun w' hSw => ?_⟩) (by with_reducible assumption) ?_
                  · clear hSw
                    go_simp
                  try simp only [Act.put, List.getElem_toArray, List.getElem_cons_succ, List.getElem_cons_zero, List.setIfInBounds_toArray, List.set_cons_zero, List.set_cons_succ]
                  refine wpAnyH_take (i := 4) (v := .pointer (some ⟨pb, 0, none⟩)) rfl (by kernel_rfl) (by kernel_rfl) (by kernel_rfl) (fun _ _ _ h => h) (Or.inl ⟨by kernel_rfl, fun w' hSw => ?_⟩) (by with_reducible assumption) ?_
                  · clear hSw
                    go_simp
                  try simp only [Act.put, List.getElem_toArray, List.getElem_cons_succ, List.getElem_cons_zero, List.setIfInBounds_toArray, List.set_cons_zero, List.set_cons_succ]
                  refine wpAnyH_take (i := 5) (v := .int .i64 (pl : Int)) rfl (by kernel_rfl) (by kernel_rfl) (by kernel_rfl) (fun _ _ _ h => h) (Or.inl ⟨by kernel_rfl, fun w' hSw => ?_⟩) (by with_reducible assumption) ?_
                  · have s0 := (PBox.but HPBb.out hSw HPBM.out).cells.1
                    clear hSw
                    go_simp
                  try simp only [Act.put, List.getElem_toArray, List.getElem_cons_succ, List.getElem_cons_zero, List.setIfInBounds_toArray, List.set_cons_zero, List.set_cons_succ]
                  refine wpAnyH_take (i := 6) (v := .pointer (some ⟨mb, pl, none⟩)) rfl (by kernel_rfl) (by kernel_rfl) (by kernel_rfl) (fun _ _ _ h => h) (Or.inl ⟨by kernel_rfl, fun w' hSw => ?_⟩) (by with_reducible assumption) ?_
                  · clear hSw
                    go_simp
                  try simp only [Act.put, List.getElem_toArray, List.getElem_cons_succ, List.getElem_cons_zero, List.setIfInBounds_toArray, List.set_cons_zero, List.set_cons_succ]
                  refine wpAnyH_ready (rs := [7]) (by kernel_rfl) (by simp) ?_
                  refine AllReadyH.cons (i := 7) rfl (fun K hK => ?_) AllReadyH.nil
                  have s0 : wb.drew.cell? ⟨mb, pl, none⟩ = some (.bool true) := HMC.out
                  go_simp
                  clear s0
                  refine hK.out _ _ hHeld (fun hHeld2 => ?_)
                  clear hK K hHeld
                  have hHeld := hHeld2
                  clear hHeld2
                  try simp only [Act.put, List.setIfInBounds_toArray, List.set_cons_zero, List.set_cons_succ]
                  refine wpAnyH_take (i := 8) (v := .bool true) rfl (by kernel_rfl) (by kernel_rfl) (by kernel_rfl) (fun _ _ _ h => h) (Or.inl ⟨by kernel_rfl, fun w' hSw => ?_⟩) (by with_reducible assumption) ?_
                  · clear hSw
                    go_simp
                  try simp only [Act.put, List.getElem_toArray, List.getElem_cons_succ, List.getElem_cons_zero, List.setIfInBounds_toArray, List.set_cons_zero, List.set_cons_succ]
                  refine wpAnyH_take (i := 9) (v := undef) rfl (by kernel_rfl) (by kernel_rfl) (by kernel_rfl) (fun _ _ _ h => h) (Or.inr ⟨by kernel_rfl, rfl⟩) (by with_reducible assumption) ?_
                  try simp only [Act.put, List.getElem_toArray, List.getElem_cons_succ, List.getElem_cons_zero, List.setIfInBounds_toArray, List.set_cons_zero, List.set_cons_succ]
                  refine wpAnyH_take (i := 10) (v := undef) rfl (by kernel_rfl) (by kernel_rfl) (by kernel_rfl) (fun _ _ _ h => h) (Or.inr ⟨by kernel_rfl, rfl⟩) (by with_reducible assumption) ?_
                  try simp only [Act.put, List.getElem_toArray, List.getElem_cons_succ, List.getElem_cons_zero, List.setIfInBounds_toArray, List.set_cons_zero, List.set_cons_succ]
                  refine wpAnyH_take (i := 11) (v := undef) rfl (by kernel_rfl) (by kernel_rfl) (by kernel_rfl) (fun _ _ _ h => h) (Or.inr ⟨by kernel_rfl, rfl⟩) (by with_reducible assumption) ?_
                  try simp only [Act.put, List.getElem_toArray, List.getElem_cons_succ, List.getElem_cons_zero, List.setIfInBounds_toArray, List.set_cons_zero, List.set_cons_succ]
                  refine wpAnyH_take (i := 12) (v := undef) rfl (by kernel_rfl) (by kernel_rfl) (by kernel_rfl) (fun _ _ _ h => h) (Or.inr ⟨by kernel_rfl, rfl⟩) (by with_reducible assumption) ?_
                  try simp only [Act.put, List.getElem_toArray, List.getElem_cons_succ, List.getElem_cons_zero, List.setIfInBounds_toArray, List.set_cons_zero, List.set_cons_succ]
                  refine wpAnyH_take (i := 13) (v := undef) rfl (by kernel_rfl) (by kernel_rfl) (by kernel_rfl) (fun _ _ _ h => h) (Or.inr ⟨by kernel_rfl, rfl⟩) (by with_reducible assumption) ?_
                  try simp only [Act.put, List.getElem_toArray, List.getElem_cons_succ, List.getElem_cons_zero, List.setIfInBounds_toArray, List.set_cons_zero, List.set_cons_succ]
                  refine wpAnyH_take (i := 14) (v := undef) rfl (by kernel_rfl) (by kernel_rfl) (by kernel_rfl) (fun _ _ _ h => h) (Or.inr ⟨by kernel_rfl, rfl⟩) (by with_reducible assumption) ?_
                  try simp only [Act.put, List.getElem_toArray, List.getElem_cons_succ, List.getElem_cons_zero, List.setIfInBounds_toArray, List.set_cons_zero, List.set_cons_succ]
                  refine wpAnyH_take (i := 15) (v := undef) rfl (by kernel_rfl) (by kernel_rfl) (by kernel_rfl) (fun _ _ _ h => h) (Or.inr ⟨by kernel_rfl, rfl⟩) (by with_reducible assumption) ?_
                  try simp only [Act.put, List.getElem_toArray, List.getElem_cons_succ, List.getElem_cons_zero, List.setIfInBounds_toArray, List.set_cons_zero, List.set_cons_succ]
                  refine wpAnyH_take (i := 16) (v := undef) rfl (by kernel_rfl) (by kernel_rfl) (by kernel_rfl) (fun _ _ _ h => h) (Or.inr ⟨by kernel_rfl, rfl⟩) (by with_reducible assumption) ?_
                  try simp only [Act.put, List.getElem_toArray, List.getElem_cons_succ, List.getElem_cons_zero, List.setIfInBounds_toArray, List.set_cons_zero, List.set_cons_succ]
                  refine wpAnyH_take (i := 17) (v := .bool true) rfl (by kernel_rfl) (by kernel_rfl) (by kernel_rfl) (fun _ _ _ h => h) (Or.inl ⟨by kernel_rfl, fun w' hSw => ?_⟩) (by with_reducible assumption) ?_
                  · clear hSw
                    go_simp
                  try simp only [Act.put, List.getElem_toArray, List.getElem_cons_succ, List.getElem_cons_zero, List.setIfInBounds_toArray, List.set_cons_zero, List.set_cons_succ]
                  refine wpAnyH_take (i := 18) (v := .pointer (some ⟨mb, pl, none⟩)) rfl (by kernel_rfl) (by kernel_rfl) (by kernel_rfl) (fun _ _ _ h => h) (Or.inl ⟨by kernel_rfl, fun w' hSw => ?_⟩) (by with_reducible assumption) ?_
                  · clear hSw
                    go_simp
                  try simp only [Act.put, List.getElem_toArray, List.getElem_cons_succ, List.getElem_cons_zero, List.setIfInBounds_toArray, List.set_cons_zero, List.set_cons_succ]
                  have HKb : Hid (Kept wb wb.drew) := hide1 (drew_kept wb)
                  obtain ⟨wd, hwd⟩ : ∃ wd, wb.drew = wd := ⟨_, rfl⟩
                  rw [hwd] at hHeld HKb ⊢
                  clear hwd
                  refine wpAnyH_ready (rs := [19]) (by kernel_rfl) (by simp) ?_
                  refine AllReadyH.cons (i := 19) rfl (fun K hK => ?_) AllReadyH.nil
                  have HMb := hide1 (HMt.out.keep HKb.out)
                  have s0 : wd.cell? ⟨mb, pl, none⟩ = some (.bool true) := HMb.out.cell HMV.out
                  have z0 := HMb.out.free pl
                  go_simp
                  clear s0 z0
                  have HMn := hide1 (HMb.out.put (i := pl) true)
                  have HKn : Hid (Kept w3 (wd.setCell ⟨mb, pl, none⟩ (.bool true))) := hide1 (keepB (gtrans HK3b.out HKb.out) HMBL.out)
                  refine hK.out _ _ (show KeptBut mb wb (wd.setCell ⟨mb, pl, none⟩ (.bool true)) from but_set (HKb.out.but mb) _ _) (fun hHeld2 => ?_)
                  clear hK K hHeld
                  have hHeld := hHeld2
                  clear hHeld2
                  try simp only [Act.put, List.setIfInBounds_toArray, List.set_cons_zero, List.set_cons_succ]
                  refine wpAnyH_done (by kernel_rfl) ?_ _
                  clear hHeld
                  generalize wd.setCell ⟨mb, pl, none⟩ (.bool true) = wn at HMn HKn ⊢
                  go_wp2_with fail
                  exact ⟨⟨i + 1, M.set pl true, ClF_of _ (by kernel_rfl), by omega, HKn, HMn, hide1 (by rw [List.length_set]; exact HML.out), hide1 (fun _ => madI_step (HMD.out (by trivial)) HPP.out HPLT.out (by rw [HML.out]; exact hpln) (fun _ => rfl) (fun _ => rfl))⟩, by simp [intOf]; omega⟩
              | false =>
                obtain ⟨bv, hbv⟩ : ∃ bv, decide (rl = ys) = bv := ⟨_, rfl⟩
                have HBV := hide1 hbv
                clear hbv
                as_aux_lemma =>
                  refine wp_region_held_drew (S := fun X => KeptBut mb wb X) (by kernel_rfl) (but_refl mb wb) (fun hHeld => ?_)
                  refine wpAnyH_take (i := 0) (v := .slice (some ⟨mb, 0, none⟩) nn nn) rfl (by kernel_rfl) (by kernel_rfl) (by kernel_rfl) (fun _ _ _ h => h) (Or.inl ⟨by kernel_rfl, fun w' hSw => ?_⟩) (by with_reducible assumption) ?_
                  · clear hSw
                    go_simp
                  try simp only [Act.put, List.getElem_toArray, List.getElem_cons_succ, List.getElem_cons_zero, List.setIfInBounds_toArray, List.set_cons_zero, List.set_cons_succ]
                  refine wpAnyH_take (i := 1) (v := .pointer (some ⟨pb, 0, none⟩)) rfl (by kernel_rfl) (by kernel_rfl) (by kernel_rfl) (fun _ _ _ h => h) (Or.inl ⟨by kernel_rfl, fun w' hSw => ?_⟩) (by with_reducible assumption) ?_
                  · clear hSw
                    go_simp
                  try simp only [Act.put, List.getElem_toArray, List.getElem_cons_succ, List.getElem_cons_zero, List.setIfInBounds_toArray, List.set_cons_zero, List.set_cons_succ]
                  refine wpAnyH_take (i := 2) (v := .int .i64 (pl : Int)) rfl (by kernel_rfl) (by kernel_rfl) (by kernel_rfl) (fun _ _ _ h => h) (Or.inl ⟨by kernel_rfl, fun w' hSw => ?_⟩) (by with_reducible assumption) ?_
                  · have s0 := (PBox.but HPBb.out hSw HPBM.out).cells.1
                    clear hSw
                    go_simp
                  try simp only [Act.put, List.getElem_toArray, List.getElem_cons_succ, List.getElem_cons_zero, List.setIfInBounds_toArray, List.set_cons_zero, List.set_cons_succ]
                  refine wpAnyH_take (i := 3) (v := .slice (some ⟨mb, 0, none⟩) nn nn) rfl (by kernel_rfl) (by kernel_rfl) (by kernel_rfl) (fun _ _ _ h => h) (Or.inl ⟨by kernel_rfl, fun w' hSw => ?_⟩) (by with_reducible assumption) ?_
                  · clear hSw
                    go_simp
                  try simp only [Act.put, List.getElem_toArray, List.getElem_cons_succ, List.getElem_cons_zero, List.setIfInBounds_toArray, List.set_cons_zero, List.set_cons_succ]
                  refine wpAnyH_take (i := 4) (v := .pointer (some ⟨pb, 0, none⟩)) rfl (by kernel_rfl) (by kernel_rfl) (by kernel_rfl) (fun _ _ _ h => h) (Or.inl ⟨by kernel_rfl, fun w' hSw => ?_⟩) (by with_reducible assumption) ?_
                  · clear hSw
                    go_simp
                  try simp only [Act.put, List.getElem_toArray, List.getElem_cons_succ, List.getElem_cons_zero, List.setIfInBounds_toArray, List.set_cons_zero, List.set_cons_succ]
                  refine wpAnyH_take (i := 5) (v := .int .i64 (pl : Int)) rfl (by kernel_rfl) (by kernel_rfl) (by kernel_rfl) (fun _ _ _ h => h) (Or.inl ⟨by kernel_rfl, fun w' hSw => ?_⟩) (by with_reducible assumption) ?_
                  · have s0 := (PBox.but HPBb.out hSw HPBM.out).cells.1
                    clear hSw
                    go_simp
                  try simp only [Act.put, List.getElem_toArray, List.getElem_cons_succ, List.getElem_cons_zero, List.setIfInBounds_toArray, List.set_cons_zero, List.set_cons_succ]
                  refine wpAnyH_take (i := 6) (v := .pointer (some ⟨mb, pl, none⟩)) rfl (by kernel_rfl) (by kernel_rfl) (by kernel_rfl) (fun _ _ _ h => h) (Or.inl ⟨by kernel_rfl, fun w' hSw => ?_⟩) (by with_reducible assumption) ?_
                  · clear hSw
                    go_simp
                  try simp only [Act.put, List.getElem_toArray, List.getElem_cons_succ, List.getElem_cons_zero, List.setIfInBounds_toArray, List.set_cons_zero, List.set_cons_succ]
                  refine wpAnyH_ready (rs := [7]) (by kernel_rfl) (by simp) ?_
                  refine AllReadyH.cons (i := 7) rfl (fun K hK => ?_) AllReadyH.nil
                  have s0 : wb.drew.cell? ⟨mb, pl, none⟩ = some (.bool false) := HMC.out
                  go_simp
                  clear s0
                  refine hK.out _ _ hHeld (fun hHeld2 => ?_)
                  clear hK K hHeld
                  have hHeld := hHeld2
                  clear hHeld2
                  try simp only [Act.put, List.setIfInBounds_toArray, List.set_cons_zero, List.set_cons_succ]
                  refine wpAnyH_take (i := 8) (v := .bool false) rfl (by kernel_rfl) (by kernel_rfl) (by kernel_rfl) (fun _ _ _ h => h) (Or.inl ⟨by kernel_rfl, fun w' hSw => ?_⟩) (by with_reducible assumption) ?_
                  · clear hSw
                    go_simp
                  try simp only [Act.put, List.getElem_toArray, List.getElem_cons_succ, List.getElem_cons_zero, List.setIfInBounds_toArray, List.set_cons_zero, List.set_cons_succ]
                  refine wpAnyH_take (i := 9) (v := .slice xa xn xc) rfl (by kernel_rfl) (by kernel_rfl) (by kernel_rfl) (fun _ _ _ h => h) (Or.inl ⟨by kernel_rfl, fun w' hSw => ?_⟩) (by with_reducible assumption) ?_
                  · clear hSw
                    go_simp
                  try simp only [Act.put, List.getElem_toArray, List.getElem_cons_succ, List.getElem_cons_zero, List.setIfInBounds_toArray, List.set_cons_zero, List.set_cons_succ]
                  refine wpAnyH_take (i := 10) (v := .pointer (some ⟨tb, 3, none⟩)) rfl (by kernel_rfl) (by kernel_rfl) (by kernel_rfl) (fun _ _ _ h => h) (Or.inl ⟨by kernel_rfl, fun w' hSw => ?_⟩) (by with_reducible assumption) ?_
                  · clear hSw
                    go_simp
                  try simp only [Act.put, List.getElem_toArray, List.getElem_cons_succ, List.getElem_cons_zero, List.setIfInBounds_toArray, List.set_cons_zero, List.set_cons_succ]
                  refine wpAnyH_take (i := 11) (v := .slice (some ⟨yb, yo, none⟩) nn nn) rfl (by kernel_rfl) (by kernel_rfl) (by kernel_rfl) (fun _ _ _ h => h) (Or.inl ⟨by kernel_rfl, fun w' hSw => ?_⟩) (by with_reducible assumption) ?_
                  · obtain ⟨f0, f1, f2, f3, f4⟩ := (TdBox.cells (TdBox.but HTDb.out hSw HTBM.out)).1
                    clear hSw
                    go_simp
                  try simp only [Act.put, List.getElem_toArray, List.getElem_cons_succ, List.getElem_cons_zero, List.setIfInBounds_toArray, List.set_cons_zero, List.set_cons_succ]
                  refine wpAnyH_take (i := 12) (v := .pointer (some ⟨pb, 0, none⟩)) rfl (by kernel_rfl) (by kernel_rfl) (by kernel_rfl) (fun _ _ _ h => h) (Or.inl ⟨by kernel_rfl, fun w' hSw => ?_⟩) (by with_reducible assumption) ?_
                  · clear hSw
                    go_simp
                  try simp only [Act.put, List.getElem_toArray, List.getElem_cons_succ, List.getElem_cons_zero, List.setIfInBounds_toArray, List.set_cons_zero, List.set_cons_succ]
                  refine wpAnyH_take (i := 13) (v := .int .i64 (pl : Int)) rfl (by kernel_rfl) (by kernel_rfl) (by kernel_rfl) (fun _ _ _ h => h) (Or.inl ⟨by kernel_rfl, fun w' hSw => ?_⟩) (by with_reducible assumption) ?_
                  · have s0 := (PBox.but HPBb.out hSw HPBM.out).cells.1
                    clear hSw
                    go_simp
                  try simp only [Act.put, List.getElem_toArray, List.getElem_cons_succ, List.getElem_cons_zero, List.setIfInBounds_toArray, List.set_cons_zero, List.set_cons_succ]
                  refine wpAnyH_take (i := 14) (v := .pointer (some ⟨yb, yo + pl, none⟩)) rfl (by kernel_rfl) (by kernel_rfl) (by kernel_rfl) (fun _ _ _ h => h) (Or.inl ⟨by kernel_rfl, fun w' hSw => ?_⟩) (by with_reducible assumption) ?_
                  · clear hSw
                    go_simp
                  try simp only [Act.put, List.getElem_toArray, List.getElem_cons_succ, List.getElem_cons_zero, List.setIfInBounds_toArray, List.set_cons_zero, List.set_cons_succ]
                  refine wpAnyH_take (i := 15) (v := .slice ya yn yc) rfl (by kernel_rfl) (by kernel_rfl) (by kernel_rfl) (fun _ _ _ h => h) (Or.inl ⟨by kernel_rfl, fun w' hSw => ?_⟩) (by with_reducible assumption) ?_
                  · have s0 := kb_cell hSw HYM.out HYC.out
                    clear hSw
                    go_simp
                  try simp only [Act.put, List.getElem_toArray, List.getElem_cons_succ, List.getElem_cons_zero, List.setIfInBounds_toArray, List.set_cons_zero, List.set_cons_succ]
                  refine wpAnyH_ready (rs := [16]) (by kernel_rfl) (by simp) ?_
                  refine AllReadyH.cons (i := 16) rfl (fun K hK => ?_) AllReadyH.nil
                  go_simp
                  go_wp2_with (go_at_call 21; refine (sameIntsS_is xa ya xn xc yn yc _ _ _ HXN.out HYN.out (HXR.out.keep (drew_kept wb)) (HYR.out.keep (drew_kept wb))).mono ?_; rintro e wd ⟨rfl, hkd⟩; rw [HBV.out]; have HKb := hide1 (gtrans (drew_kept wb) hkd); clear hkd)
                  refine hK.out _ _ (HKb.out.but mb) (fun hHeld2 => ?_)
                  clear hK K hHeld
                  have hHeld := hHeld2
                  clear hHeld2
                  try simp only [Act.put, List.setIfInBounds_toArray, List.set_cons_zero, List.set_cons_succ]
                  refine wpAnyH_take (i := 17) (v := .bool bv) rfl (by kernel_rfl) (by kernel_rfl) (by kernel_rfl) (fun _ _ _ h => h) (Or.inl ⟨by kernel_rfl, fun w' hSw => ?_⟩) (by with_reducible assumption) ?_
                  · clear hSw
                    go_simp
                  try simp only [Act.put, List.getElem_toArray, List.getElem_cons_succ, List.getElem_cons_zero, List.setIfInBounds_toArray, List.set_cons_zero, List.set_cons_succ]
                  refine wpAnyH_take (i := 18) (v := .pointer (some ⟨mb, pl, none⟩)) rfl (by kernel_rfl) (by kernel_rfl) (by kernel_rfl) (fun _ _ _ h => h) (Or.inl ⟨by kernel_rfl, fun w' hSw => ?_⟩) (by with_reducible assumption) ?_
                  · clear hSw
                    go_simp
                  try simp only [Act.put, List.getElem_toArray, List.getElem_cons_succ, List.getElem_cons_zero, List.setIfInBounds_toArray, List.set_cons_zero, List.set_cons_succ]
                  refine wpAnyH_ready (rs := [19]) (by kernel_rfl) (by simp) ?_
                  refine AllReadyH.cons (i := 19) rfl (fun K hK => ?_) AllReadyH.nil
                  have HMb := hide1 (HMt.out.keep HKb.out)
                  have s0 : wd.cell? ⟨mb, pl, none⟩ = some (.bool false) := HMb.out.cell HMV.out
                  have z0 := HMb.out.free pl
                  go_simp
                  clear s0 z0
                  have HMn := hide1 (HMb.out.put (i := pl) bv)
                  have HKn : Hid (Kept w3 (wd.setCell ⟨mb, pl, none⟩ (.bool bv))) := hide1 (keepB (gtrans HK3b.out HKb.out) HMBL.out)
                  refine hK.out _ _ (show KeptBut mb wb (wd.setCell ⟨mb, pl, none⟩ (.bool bv)) from but_set (HKb.out.but mb) _ _) (fun hHeld2 => ?_)
                  clear hK K hHeld
                  have hHeld := hHeld2
                  clear hHeld2
                  try simp only [Act.put, List.setIfInBounds_toArray, List.set_cons_zero, List.set_cons_succ]
                  refine wpAnyH_done (by kernel_rfl) ?_ _
                  clear hHeld
                  generalize wd.setCell ⟨mb, pl, none⟩ (.bool bv) = wn at HMn HKn ⊢
                  go_wp2_with fail
                  exact ⟨⟨i + 1, M.set pl bv, ClF_of _ (by kernel_rfl), by omega, HKn, HMn, hide1 (by rw [List.length_set]; exact HML.out), hide1 (fun _ => madI_step (HMD.out (by trivial)) HPP.out HPLT.out (by rw [HML.out]; exact hpln) (fun h => by rw [HMV.out] at h; injection h with h; cases h) (fun h => by rw [HRE.out, HYS.out] at h; rw [← HBV.out]; exact decide_eq_true h))⟩, by simp [intOf]; omega⟩
      · have HC := hide1 (HC3.out.keep HKr.out)
        have HMA : Hid (fl = false → ∀ x, x < nn → M[x]? = some true) := hide1 (fun h x hx => madI_all (HMD.out h) (by have := HPS.out; omega) (HL0.out h).1 (HL0.out h).2.1 hx)
        obtain ⟨s0, s1, s2, s3⟩ := HC.out.1.facts
        go_wp2_with fail
        refine wp_loop (ClK sb tb mb nn wr) (fun a' _ => nn - (intOf (a'.tmps.getD 16 undef)).toNat) ?_ ?_
        · exact ⟨0, ClH_of _ (by kernel_rfl), Nat.zero_le _, Kept.refl _⟩
        · clear s0 s1 s2 s3
          rintro a' wx ⟨x, ⟨T3, rfl⟩, hx, HKx⟩
          have HCx := hide1 (HC.out.keep HKx.out)
          obtain ⟨s0, s1, s2, s3⟩ := HCx.out.1.facts
          by_cases hltx : (x : Int) < (nn : Int)
          · have hxn : x < nn := by omega
            obtain ⟨_, fa, fc, k2, hfr⟩ := HCx.out.2.2.2.1 x hxn
            obtain ⟨fn, hfn⟩ : ∃ fn, (Fl x).length = fn := ⟨_, rfl⟩
            rw [hfn] at k2 hfr
            obtain ⟨_, ga, gc, k3, hgr⟩ := HCx.out.2.2.2.2.1 x hxn
            obtain ⟨gn, hgn⟩ : ∃ gn, (Gl x).length = gn := ⟨_, rfl⟩
            rw [hgn] at k3 hgr
            have HR1 : Hid (RisAt wx (.slice fa fn fc)) := hide1 ⟨Fl x, hfr, HFs.out x⟩
            have HR2 : Hid (RisAt wx (.slice ga gn gc)) := hide1 ⟨Gl x, hgr, HGs.out x⟩
            have HFR := hide1 hfr
            have HFN := hide1 hfn
            have HK2 := hide1 k2
            have HK3x := hide1 k3
            clear hfr hfn hgr hgn k2 k3
            cases fl with
            | true =>
              go_upto_region 32 with fail
              as_aux_lemma =>
                refine wp_region_held_drew (S := fun X => Kept wx X) (by kernel_rfl) (Kept.refl wx) (fun hHeld => ?_)
                refine wpAnyH_take (i := 0) (v := .pointer (some ⟨tb, 1, none⟩)) rfl (by kernel_rfl) (by kernel_rfl) (by kernel_rfl) (fun _ _ _ h => h) (Or.inl ⟨by kernel_rfl, fun w' hSw => ?_⟩) (by with_reducible assumption) ?_
                · clear hSw
                  go_simp
                try simp only [Act.put, List.getElem_toArray, List.getElem_cons_succ, List.getElem_cons_zero, List.setIfInBounds_toArray, List.set_cons_zero, List.set_cons_succ]
                refine wpAnyH_take (i := 1) (v := .slice (some ⟨g2, 0, none⟩) nn nn) rfl (by kernel_rfl) (by kernel_rfl) (by kernel_rfl) (fun _ _ _ h => h) (Or.inl ⟨by kernel_rfl, fun w' hSw => ?_⟩) (by with_reducible assumption) ?_
                · obtain ⟨f0, f1, f2, f3, f4⟩ := (TdBox.cells (HCx.out.keep hSw).2.1).1
                  clear hSw
                  go_simp
                try simp only [Act.put, List.getElem_toArray, List.getElem_cons_succ, List.getElem_cons_zero, List.setIfInBounds_toArray, List.set_cons_zero, List.set_cons_succ]
                refine wpAnyH_take (i := 2) (v := .int .i64 (x : Int)) rfl (by kernel_rfl) (by kernel_rfl) (by kernel_rfl) (fun _ _ _ h => h) (Or.inl ⟨by kernel_rfl, fun w' hSw => ?_⟩) (by with_reducible assumption) ?_
                · clear hSw
                  go_simp
                try simp only [Act.put, List.getElem_toArray, List.getElem_cons_succ, List.getElem_cons_zero, List.setIfInBounds_toArray, List.set_cons_zero, List.set_cons_succ]
                refine wpAnyH_take (i := 3) (v := .pointer (some ⟨g2, x, none⟩)) rfl (by kernel_rfl) (by kernel_rfl) (by kernel_rfl) (fun _ _ _ h => h) (Or.inl ⟨by kernel_rfl, fun w' hSw => ?_⟩) (by with_reducible assumption) ?_
                · clear hSw
                  go_simp
                try simp only [Act.put, List.getElem_toArray, List.getElem_cons_succ, List.getElem_cons_zero, List.setIfInBounds_toArray, List.set_cons_zero, List.set_cons_succ]
                refine wpAnyH_take (i := 4) (v := .slice fa fn fc) rfl (by kernel_rfl) (by kernel_rfl) (by kernel_rfl) (fun _ _ _ h => h) (Or.inl ⟨by kernel_rfl, fun w' hSw => ?_⟩) (by with_reducible assumption) ?_
                · have s0 := grown_cell hSw HK2.out
                  clear hSw
                  go_simp
                try simp only [Act.put, List.getElem_toArray, List.getElem_cons_succ, List.getElem_cons_zero, List.setIfInBounds_toArray, List.set_cons_zero, List.set_cons_succ]
                refine wpAnyH_ready (rs := [5]) (by kernel_rfl) (by simp) ?_
                refine AllReadyH.cons (i := 5) rfl (fun K hK => ?_) AllReadyH.nil
                go_simp
                go_wp2_with (go_at_call 19; refine (rising_q fa fn fc _ (HR1.out.keep (drew_kept wx))).mono ?_; rintro e wy1 ⟨rfl, qq, hwy⟩; have HKwy1 : Hid (Kept wx wy1) := hide1 (by rw [hwy]; exact gtrans (drew_kept wx) (drewN_kept _ _)); clear hwy)
                refine hK.out _ _ HKwy1.out (fun hHeld2 => ?_)
                clear hK K hHeld
                have hHeld := hHeld2
                clear hHeld2
                try simp only [Act.put, List.setIfInBounds_toArray, List.set_cons_zero, List.set_cons_succ]
                refine wpAnyH_take (i := 6) (v := .bool false) rfl (by kernel_rfl) (by kernel_rfl) (by kernel_rfl) (fun _ _ _ h => h) (Or.inl ⟨by kernel_rfl, fun w' hSw => ?_⟩) (by with_reducible assumption) ?_
                · clear hSw
                  go_simp
                try simp only [Act.put, List.getElem_toArray, List.getElem_cons_succ, List.getElem_cons_zero, List.setIfInBounds_toArray, List.set_cons_zero, List.set_cons_succ]
                refine wpAnyH_take (i := 7) (v := .bool false) rfl (by kernel_rfl) (by kernel_rfl) (by kernel_rfl) (fun _ _ _ h => h) (Or.inl ⟨by kernel_rfl, fun w' hSw => ?_⟩) (by with_reducible assumption) ?_
                · clear hSw
                  go_simp
                try simp only [Act.put, List.getElem_toArray, List.getElem_cons_succ, List.getElem_cons_zero, List.setIfInBounds_toArray, List.set_cons_zero, List.set_cons_succ]
                refine wpAnyH_take (i := 8) (v := .pointer (some ⟨tb, 2, none⟩)) rfl (by kernel_rfl) (by kernel_rfl) (by kernel_rfl) (fun _ _ _ h => h) (Or.inl ⟨by kernel_rfl, fun w' hSw => ?_⟩) (by with_reducible assumption) ?_
                · clear hSw
                  go_simp
                try simp only [Act.put, List.getElem_toArray, List.getElem_cons_succ, List.getElem_cons_zero, List.setIfInBounds_toArray, List.set_cons_zero, List.set_cons_succ]
                refine wpAnyH_take (i := 9) (v := .slice (some ⟨g3, 0, none⟩) nn nn) rfl (by kernel_rfl) (by kernel_rfl) (by kernel_rfl) (fun _ _ _ h => h) (Or.inl ⟨by kernel_rfl, fun w' hSw => ?_⟩) (by with_reducible assumption) ?_
                · obtain ⟨f0, f1, f2, f3, f4⟩ := (TdBox.cells (HCx.out.keep hSw).2.1).1
                  clear hSw
                  go_simp
                try simp only [Act.put, List.getElem_toArray, List.getElem_cons_succ, List.getElem_cons_zero, List.setIfInBounds_toArray, List.set_cons_zero, List.set_cons_succ]
                refine wpAnyH_take (i := 10) (v := .int .i64 (x : Int)) rfl (by kernel_rfl) (by kernel_rfl) (by kernel_rfl) (fun _ _ _ h => h) (Or.inl ⟨by kernel_rfl, fun w' hSw => ?_⟩) (by with_reducible assumption) ?_
                · clear hSw
                  go_simp
                try simp only [Act.put, List.getElem_toArray, List.getElem_cons_succ, List.getElem_cons_zero, List.setIfInBounds_toArray, List.set_cons_zero, List.set_cons_succ]
                refine wpAnyH_take (i := 11) (v := .pointer (some ⟨g3, x, none⟩)) rfl (by kernel_rfl) (by kernel_rfl) (by kernel_rfl) (fun _ _ _ h => h) (Or.inl ⟨by kernel_rfl, fun w' hSw => ?_⟩) (by with_reducible assumption) ?_
                · clear hSw
                  go_simp
                try simp only [Act.put, List.getElem_toArray, List.getElem_cons_succ, List.getElem_cons_zero, List.setIfInBounds_toArray, List.set_cons_zero, List.set_cons_succ]
                refine wpAnyH_take (i := 12) (v := .slice ga gn gc) rfl (by kernel_rfl) (by kernel_rfl) (by kernel_rfl) (fun _ _ _ h => h) (Or.inl ⟨by kernel_rfl, fun w' hSw => ?_⟩) (by with_reducible assumption) ?_
                · have s0 := grown_cell hSw HK3x.out
                  clear hSw
                  go_simp
                try simp only [Act.put, List.getElem_toArray, List.getElem_cons_succ, List.getElem_cons_zero, List.setIfInBounds_toArray, List.set_cons_zero, List.set_cons_succ]
                refine wpAnyH_ready (rs := [13]) (by kernel_rfl) (by simp) ?_
                refine AllReadyH.cons (i := 13) rfl (fun K hK => ?_) AllReadyH.nil
                go_simp
                go_wp2_with (go_at_call 19; refine (rising_q ga gn gc _ (HR2.out.keep HKwy1.out)).mono ?_; rintro e wy2 ⟨rfl, qq, hwy⟩; have HKwy2 : Hid (Kept wx wy2) := hide1 (by rw [hwy]; exact gtrans HKwy1.out (drewN_kept _ _)); clear hwy)
                refine hK.out _ _ HKwy2.out (fun hHeld2 => ?_)
                clear hK K hHeld
                have hHeld := hHeld2
                clear hHeld2
                try simp only [Act.put, List.setIfInBounds_toArray, List.set_cons_zero, List.set_cons_succ]
                refine wpAnyH_take (i := 14) (v := .bool false) rfl (by kernel_rfl) (by kernel_rfl) (by kernel_rfl) (fun _ _ _ h => h) (Or.inl ⟨by kernel_rfl, fun w' hSw => ?_⟩) (by with_reducible assumption) ?_
                · clear hSw
                  go_simp
                try simp only [Act.put, List.getElem_toArray, List.getElem_cons_succ, List.getElem_cons_zero, List.setIfInBounds_toArray, List.set_cons_zero, List.set_cons_succ]
                refine wpAnyH_take (i := 15) (v := .bool false) rfl (by kernel_rfl) (by kernel_rfl) (by kernel_rfl) (fun _ _ _ h => h) (Or.inl ⟨by kernel_rfl, fun w' hSw => ?_⟩) (by with_reducible assumption) ?_
                · clear hSw
                  go_simp
                try simp only [Act.put, List.getElem_toArray, List.getElem_cons_succ, List.getElem_cons_zero, List.setIfInBounds_toArray, List.set_cons_zero, List.set_cons_succ]
                refine wpAnyH_take (i := 16) (v := .bool false) rfl (by kernel_rfl) (by kernel_rfl) (by kernel_rfl) (fun _ _ _ h => h) (Or.inl ⟨by kernel_rfl, fun w' hSw => ?_⟩) (by with_reducible assumption) ?_
                · clear hSw
                  go_simp
                try simp only [Act.put, List.getElem_toArray, List.getElem_cons_succ, List.getElem_cons_zero, List.setIfInBounds_toArray, List.set_cons_zero, List.set_cons_succ]
                refine wpAnyH_take (i := 17) (v := .pointer (some ⟨tb, 4, none⟩)) rfl (by kernel_rfl) (by kernel_rfl) (by kernel_rfl) (fun _ _ _ h => h) (Or.inl ⟨by kernel_rfl, fun w' hSw => ?_⟩) (by with_reducible assumption) ?_
                · clear hSw
                  go_simp
                try simp only [Act.put, List.getElem_toArray, List.getElem_cons_succ, List.getElem_cons_zero, List.setIfInBounds_toArray, List.set_cons_zero, List.set_cons_succ]
                refine wpAnyH_take (i := 18) (v := .bool true) rfl (by kernel_rfl) (by kernel_rfl) (by kernel_rfl) (fun _ _ _ h => h) (Or.inl ⟨by kernel_rfl, fun w' hSw => ?_⟩) (by with_reducible assumption) ?_
                · obtain ⟨f0, f1, f2, f3, f4⟩ := (TdBox.cells (HCx.out.keep hSw).2.1).1
                  clear hSw
                  go_simp
                try simp only [Act.put, List.getElem_toArray, List.getElem_cons_succ, List.getElem_cons_zero, List.setIfInBounds_toArray, List.set_cons_zero, List.set_cons_succ]
                refine wpAnyH_take (i := 19) (v := .bool false) rfl (by kernel_rfl) (by kernel_rfl) (by kernel_rfl) (fun _ _ _ h => h) (Or.inl ⟨by kernel_rfl, fun w' hSw => ?_⟩) (by with_reducible assumption) ?_
                · clear hSw
                  go_simp
                try simp only [Act.put, List.getElem_toArray, List.getElem_cons_succ, List.getElem_cons_zero, List.setIfInBounds_toArray, List.set_cons_zero, List.set_cons_succ]
                refine wpAnyH_take (i := 20) (v := .bool false) rfl (by kernel_rfl) (by kernel_rfl) (by kernel_rfl) (fun _ _ _ h => h) (Or.inl ⟨by kernel_rfl, fun w' hSw => ?_⟩) (by with_reducible assumption) ?_
                · clear hSw
                  go_simp
                try simp only [Act.put, List.getElem_toArray, List.getElem_cons_succ, List.getElem_cons_zero, List.setIfInBounds_toArray, List.set_cons_zero, List.set_cons_succ]
                refine wpAnyH_take (i := 21) (v := undef) rfl (by kernel_rfl) (by kernel_rfl) (by kernel_rfl) (fun _ _ _ h => h) (Or.inr ⟨by kernel_rfl, rfl⟩) (by with_reducible assumption) ?_
                try simp only [Act.put, List.getElem_toArray, List.getElem_cons_succ, List.getElem_cons_zero, List.setIfInBounds_toArray, List.set_cons_zero, List.set_cons_succ]
                refine wpAnyH_take (i := 22) (v := undef) rfl (by kernel_rfl) (by kernel_rfl) (by kernel_rfl) (fun _ _ _ h => h) (Or.inr ⟨by kernel_rfl, rfl⟩) (by with_reducible assumption) ?_
                try simp only [Act.put, List.getElem_toArray, List.getElem_cons_succ, List.getElem_cons_zero, List.setIfInBounds_toArray, List.set_cons_zero, List.set_cons_succ]
                refine wpAnyH_take (i := 23) (v := undef) rfl (by kernel_rfl) (by kernel_rfl) (by kernel_rfl) (fun _ _ _ h => h) (Or.inr ⟨by kernel_rfl, rfl⟩) (by with_reducible assumption) ?_
                try simp only [Act.put, List.getElem_toArray, List.getElem_cons_succ, List.getElem_cons_zero, List.setIfInBounds_toArray, List.set_cons_zero, List.set_cons_succ]
                refine wpAnyH_take (i := 24) (v := undef) rfl (by kernel_rfl) (by kernel_rfl) (by kernel_rfl) (fun _ _ _ h => h) (Or.inr ⟨by kernel_rfl, rfl⟩) (by with_reducible assumption) ?_
                try simp only [Act.put, List.getElem_toArray, List.getElem_cons_succ, List.getElem_cons_zero, List.setIfInBounds_toArray, List.set_cons_zero, List.set_cons_succ]
                refine wpAnyH_take (i := 25) (v := undef) rfl (by kernel_rfl) (by kernel_rfl) (by kernel_rfl) (fun _ _ _ h => h) (Or.inr ⟨by kernel_rfl, rfl⟩) (by with_reducible assumption) ?_
                try simp only [Act.put, List.getElem_toArray, List.getElem_cons_succ, List.getElem_cons_zero, List.setIfInBounds_toArray, List.set_cons_zero, List.set_cons_succ]
                refine wpAnyH_take (i := 26) (v := undef) rfl (by kernel_rfl) (by kernel_rfl) (by kernel_rfl) (fun _ _ _ h => h) (Or.inr ⟨by kernel_rfl, rfl⟩) (by with_reducible assumption) ?_
                try simp only [Act.put, List.getElem_toArray, List.getElem_cons_succ, List.getElem_cons_zero, List.setIfInBounds_toArray, List.set_cons_zero, List.set_cons_succ]
                refine wpAnyH_take (i := 27) (v := undef) rfl (by kernel_rfl) (by kernel_rfl) (by kernel_rfl) (fun _ _ _ h => h) (Or.inr ⟨by kernel_rfl, rfl⟩) (by with_reducible assumption) ?_
                try simp only [Act.put, List.getElem_toArray, List.getElem_cons_succ, List.getElem_cons_zero, List.setIfInBounds_toArray, List.set_cons_zero, List.set_cons_succ]
                refine wpAnyH_take (i := 28) (v := undef) rfl (by kernel_rfl) (by kernel_rfl) (by kernel_rfl) (fun _ _ _ h => h) (Or.inr ⟨by kernel_rfl, rfl⟩) (by with_reducible assumption) ?_
                try simp only [Act.put, List.getElem_toArray, List.getElem_cons_succ, List.getElem_cons_zero, List.setIfInBounds_toArray, List.set_cons_zero, List.set_cons_succ]
                refine wpAnyH_take (i := 29) (v := undef) rfl (by kernel_rfl) (by kernel_rfl) (by kernel_rfl) (fun _ _ _ h => h) (Or.inr ⟨by kernel_rfl, rfl⟩) (by with_reducible assumption) ?_
                try simp only [Act.put, List.getElem_toArray, List.getElem_cons_succ, List.getElem_cons_zero, List.setIfInBounds_toArray, List.set_cons_zero, List.set_cons_succ]
                refine wpAnyH_take (i := 30) (v := undef) rfl (by kernel_rfl) (by kernel_rfl) (by kernel_rfl) (fun _ _ _ h => h) (Or.inr ⟨by kernel_rfl, rfl⟩) (by with_reducible assumption) ?_
                try simp only [Act.put, List.getElem_toArray, List.getElem_cons_succ, List.getElem_cons_zero, List.setIfInBounds_toArray, List.set_cons_zero, List.set_cons_succ]
                refine wpAnyH_take (i := 31) (v := undef) rfl (by kernel_rfl) (by kernel_rfl) (by kernel_rfl) (fun _ _ _ h => h) (Or.inr ⟨by kernel_rfl, rfl⟩) (by with_reducible assumption) ?_
                try simp only [Act.put, List.getElem_toArray, List.getElem_cons_succ, List.getElem_cons_zero, List.setIfInBounds_toArray, List.set_cons_zero, List.set_cons_succ]
                refine wpAnyH_take (i := 32) (v := undef) rfl (by kernel_rfl) (by kernel_rfl) (by kernel_rfl) (fun _ _ _ h => h) (Or.inr ⟨by kernel_rfl, rfl⟩) (by with_reducible assumption) ?_
                try simp only [Act.put, List.getElem_toArray, List.getElem_cons_succ, List.getElem_cons_zero, List.setIfInBounds_toArray, List.set_cons_zero, List.set_cons_succ]
                refine wpAnyH_take (i := 33) (v := undef) rfl (by kernel_rfl) (by kernel_rfl) (by kernel_rfl) (fun _ _ _ h => h) (Or.inr ⟨by kernel_rfl, rfl⟩) (by with_reducible assumption) ?_
                try simp only [Act.put, List.getElem_toArray, List.getElem_cons_succ, List.getElem_cons_zero, List.setIfInBounds_toArray, List.set_cons_zero, List.set_cons_succ]
                refine wpAnyH_take (i := 34) (v := undef) rfl (by kernel_rfl) (by kernel_rfl) (by kernel_rfl) (fun _ _ _ h => h) (Or.inr ⟨by kernel_rfl, rfl⟩) (by with_reducible assumption) ?_
                try simp only [Act.put, List.getElem_toArray, List.getElem_cons_succ, List.getElem_cons_zero, List.setIfInBounds_toArray, List.set_cons_zero, List.set_cons_succ]
                refine wpAnyH_take (i := 35) (v := undef) rfl (by kernel_rfl) (by kernel_rfl) (by kernel_rfl) (fun _ _ _ h => h) (Or.inr ⟨by kernel_rfl, rfl⟩) (by with_reducible assumption) ?_
                try simp only [Act.put, List.getElem_toArray, List.getElem_cons_succ, List.getElem_cons_zero, List.setIfInBounds_toArray, List.set_cons_zero, List.set_cons_succ]
                refine wpAnyH_take (i := 36) (v := undef) rfl (by kernel_rfl) (by kernel_rfl) (by kernel_rfl) (fun _ _ _ h => h) (Or.inr ⟨by kernel_rfl, rfl⟩) (by with_reducible assumption) ?_
                try simp only [Act.put, List.getElem_toArray, List.getElem_cons_succ, List.getElem_cons_zero, List.setIfInBounds_toArray, List.set_cons_zero, List.set_cons_succ]
                refine wpAnyH_take (i := 37) (v := undef) rfl (by kernel_rfl) (by kernel_rfl) (by kernel_rfl) (fun _ _ _ h => h) (Or.inr ⟨by kernel_rfl, rfl⟩) (by with_reducible assumption) ?_
                try simp only [Act.put, List.getElem_toArray, List.getElem_cons_succ, List.getElem_cons_zero, List.setIfInBounds_toArray, List.set_cons_zero, List.set_cons_succ]
                refine wpAnyH_take (i := 38) (v := undef) rfl (by kernel_rfl) (by kernel_rfl) (by kernel_rfl) (fun _ _ _ h => h) (Or.inr ⟨by kernel_rfl, rfl⟩) (by with_reducible assumption) ?_
                try simp only [Act.put, List.getElem_toArray, List.getElem_cons_succ, List.getElem_cons_zero, List.setIfInBounds_toArray, List.set_cons_zero, List.set_cons_succ]
                refine wpAnyH_take (i := 39) (v := undef) rfl (by kernel_rfl) (by kernel_rfl) (by kernel_rfl) (fun _ _ _ h => h) (Or.inr ⟨by kernel_rfl, rfl⟩) (by with_reducible assumption) ?_
                try simp only [Act.put, List.getElem_toArray, List.getElem_cons_succ, List.getElem_cons_zero, List.setIfInBounds_toArray, List.set_cons_zero, List.set_cons_succ]
                refine wpAnyH_take (i := 40) (v := undef) rfl (by kernel_rfl) (by kernel_rfl) (by kernel_rfl) (fun _ _ _ h => h) (Or.inr ⟨by kernel_rfl, rfl⟩) (by with_reducible assumption) ?_
                try simp only [Act.put, List.getElem_toArray, List.getElem_cons_succ, List.getElem_cons_zero, List.setIfInBounds_toArray, List.set_cons_zero, List.set_cons_succ]
                refine wpAnyH_take (i := 41) (v := undef) rfl (by kernel_rfl) (by kernel_rfl) (by kernel_rfl) (fun _ _ _ h => h) (Or.inr ⟨by kernel_rfl, rfl⟩) (by with_reducible assumption) ?_
                try simp only [Act.put, List.getElem_toArray, List.getElem_cons_succ, List.getElem_cons_zero, List.setIfInBounds_toArray, List.set_cons_zero, List.set_cons_succ]
                refine wpAnyH_take (i := 42) (v := undef) rfl (by kernel_rfl) (by kernel_rfl) (by kernel_rfl) (fun _ _ _ h => h) (Or.inr ⟨by kernel_rfl, rfl⟩) (by with_reducible assumption) ?_
                try simp only [Act.put, List.getElem_toArray, List.getElem_cons_succ, List.getElem_cons_zero, List.setIfInBounds_toArray, List.set_cons_zero, List.set_cons_succ]
                refine wpAnyH_take (i := 43) (v := undef) rfl (by kernel_rfl) (by kernel_rfl) (by kernel_rfl) (fun _ _ _ h => h) (Or.inr ⟨by kernel_rfl, rfl⟩) (by with_reducible assumption) ?_
                try simp only [Act.put, List.getElem_toArray, List.getElem_cons_succ, List.getElem_cons_zero, List.setIfInBounds_toArray, List.set_cons_zero, List.set_cons_succ]
                refine wpAnyH_take (i := 44) (v := undef) rfl (by kernel_rfl) (by kernel_rfl) (by kernel_rfl) (fun _ _ _ h => h) (Or.inr ⟨by kernel_rfl, rfl⟩) (by with_reducible assumption) ?_
                try simp only [Act.put, List.getElem_toArray, List.getElem_cons_succ, List.getElem_cons_zero, List.setIfInBounds_toArray, List.set_cons_zero, List.set_cons_succ]
                refine wpAnyH_take (i := 45) (v := undef) rfl (by kernel_rfl) (by kernel_rfl) (by kernel_rfl) (fun _ _ _ h => h) (Or.inr ⟨by kernel_rfl, rfl⟩) (by with_reducible assumption) ?_
                try simp only [Act.put, List.getElem_toArray, List.getElem_cons_succ, List.getElem_cons_zero, List.setIfInBounds_toArray, List.set_cons_zero, List.set_cons_succ]
                refine wpAnyH_take (i := 46) (v := undef) rfl (by kernel_rfl) (by kernel_rfl) (by kernel_rfl) (fun _ _ _ h => h) (Or.inr ⟨by kernel_rfl, rfl⟩) (by with_reducible assumption) ?_
                try simp only [Act.put, List.getElem_toArray, List.getElem_cons_succ, List.getElem_cons_zero, List.setIfInBounds_toArray, List.set_cons_zero, List.set_cons_succ]
                refine wpAnyH_take (i := 47) (v := undef) rfl (by kernel_rfl) (by kernel_rfl) (by kernel_rfl) (fun _ _ _ h => h) (Or.inr ⟨by kernel_rfl, rfl⟩) (by with_reducible assumption) ?_
                try simp only [Act.put, List.getElem_toArray, List.getElem_cons_succ, List.getElem_cons_zero, List.setIfInBounds_toArray, List.set_cons_zero, List.set_cons_succ]
                refine wpAnyH_take (i := 48) (v := undef) rfl (by kernel_rfl) (by kernel_rfl) (by kernel_rfl) (fun _ _ _ h => h) (Or.inr ⟨by kernel_rfl, rfl⟩) (by with_reducible assumption) ?_
                try simp only [Act.put, List.getElem_toArray, List.getElem_cons_succ, List.getElem_cons_zero, List.setIfInBounds_toArray, List.set_cons_zero, List.set_cons_succ]
                refine wpAnyH_take (i := 49) (v := undef) rfl (by kernel_rfl) (by kernel_rfl) (by kernel_rfl) (fun _ _ _ h => h) (Or.inr ⟨by kernel_rfl, rfl⟩) (by with_reducible assumption) ?_
                try simp only [Act.put, List.getElem_toArray, List.getElem_cons_succ, List.getElem_cons_zero, List.setIfInBounds_toArray, List.set_cons_zero, List.set_cons_succ]
                refine wpAnyH_take (i := 50) (v := undef) rfl (by kernel_rfl) (by kernel_rfl) (by kernel_rfl) (fun _ _ _ h => h) (Or.inr ⟨by kernel_rfl, rfl⟩) (by with_reducible assumption) ?_
                try simp only [Act.put, List.getElem_toArray, List.getElem_cons_succ, List.getElem_cons_zero, List.setIfInBounds_toArray, List.set_cons_zero, List.set_cons_succ]
                refine wpAnyH_take (i := 51) (v := undef) rfl (by kernel_rfl) (by kernel_rfl) (by kernel_rfl) (fun _ _ _ h => h) (Or.inr ⟨by kernel_rfl, rfl⟩) (by with_reducible assumption) ?_
                try simp only [Act.put, List.getElem_toArray, List.getElem_cons_succ, List.getElem_cons_zero, List.setIfInBounds_toArray, List.set_cons_zero, List.set_cons_succ]
                refine wpAnyH_take (i := 52) (v := undef) rfl (by kernel_rfl) (by kernel_rfl) (by kernel_rfl) (fun _ _ _ h => h) (Or.inr ⟨by kernel_rfl, rfl⟩) (by with_reducible assumption) ?_
                try simp only [Act.put, List.getElem_toArray, List.getElem_cons_succ, List.getElem_cons_zero, List.setIfInBounds_toArray, List.set_cons_zero, List.set_cons_succ]
                refine wpAnyH_take (i := 53) (v := undef) rfl (by kernel_rfl) (by kernel_rfl) (by kernel_rfl) (fun _ _ _ h => h) (Or.inr ⟨by kernel_rfl, rfl⟩) (by with_reducible assumption) ?_
                try simp only [Act.put, List.getElem_toArray, List.getElem_cons_succ, List.getElem_cons_zero, List.setIfInBounds_toArray, List.set_cons_zero, List.set_cons_succ]
                refine wpAnyH_take (i := 54) (v := undef) rfl (by kernel_rfl) (by kernel_rfl) (by kernel_rfl) (fun _ _ _ h => h) (Or.inr ⟨by kernel_rfl, rfl⟩) (by with_reducible assumption) ?_
                try simp only [Act.put, List.getElem_toArray, List.getElem_cons_succ, List.getElem_cons_zero, List.setIfInBounds_toArray, List.set_cons_zero, List.set_cons_succ]
                refine wpAnyH_take (i := 55) (v := undef) rfl (by kernel_rfl) (by kernel_rfl) (by kernel_rfl) (fun _ _ _ h => h) (Or.inr ⟨by kernel_rfl, rfl⟩) (by with_reducible assumption) ?_
                try simp only [Act.put, List.getElem_toArray, List.getElem_cons_succ, List.getElem_cons_zero, List.setIfInBounds_toArray, List.set_cons_zero, List.set_cons_succ]
                refine wpAnyH_take (i := 56) (v := undef) rfl (by kernel_rfl) (by kernel_rfl) (by kernel_rfl) (fun _ _ _ h => h) (Or.inr ⟨by kernel_rfl, rfl⟩) (by with_reducible assumption) ?_
                try simp only [Act.put, List.getElem_toArray, List.getElem_cons_succ, List.getElem_cons_zero, List.setIfInBounds_toArray, List.set_cons_zero, List.set_cons_succ]
                refine wpAnyH_take (i := 57) (v := undef) rfl (by kernel_rfl) (by kernel_rfl) (by kernel_rfl) (fun _ _ _ h => h) (Or.inr ⟨by kernel_rfl, rfl⟩) (by with_reducible assumption) ?_
                try simp only [Act.put, List.getElem_toArray, List.getElem_cons_succ, List.getElem_cons_zero, List.setIfInBounds_toArray, List.set_cons_zero, List.set_cons_succ]
                refine wpAnyH_take (i := 58) (v := undef) rfl (by kernel_rfl) (by kernel_rfl) (by kernel_rfl) (fun _ _ _ h => h) (Or.inr ⟨by kernel_rfl, rfl⟩) (by with_reducible assumption) ?_
                try simp only [Act.put, List.getElem_toArray, List.getElem_cons_succ, List.getElem_cons_zero, List.setIfInBounds_toArray, List.set_cons_zero, List.set_cons_succ]
                refine wpAnyH_take (i := 59) (v := undef) rfl (by kernel_rfl) (by kernel_rfl) (by kernel_rfl) (fun _ _ _ h => h) (Or.inr ⟨by kernel_rfl, rfl⟩) (by with_reducible assumption) ?_
                try simp only [Act.put, List.getElem_toArray, List.getElem_cons_succ, List.getElem_cons_zero, List.setIfInBounds_toArray, List.set_cons_zero, List.set_cons_succ]
                refine wpAnyH_take (i := 60) (v := undef) rfl (by kernel_rfl) (by kernel_rfl) (by kernel_rfl) (fun _ _ _ h => h) (Or.inr ⟨by kernel_rfl, rfl⟩) (by with_reducible assumption) ?_
                try simp only [Act.put, List.getElem_toArray, List.getElem_cons_succ, List.getElem_cons_zero, List.setIfInBounds_toArray, List.set_cons_zero, List.set_cons_succ]
                refine wpAnyH_take (i := 61) (v := undef) rfl (by kernel_rfl) (by kernel_rfl) (by kernel_rfl) (fun _ _ _ h => h) (Or.inr ⟨by kernel_rfl, rfl⟩) (by with_reducible assumption) ?_
                try simp only [Act.put, List.getElem_toArray, List.getElem_cons_succ, List.getElem_cons_zero, List.setIfInBounds_toArray, List.set_cons_zero, List.set_cons_succ]
                refine wpAnyH_take (i := 62) (v := undef) rfl (by kernel_rfl) (by kernel_rfl) (by kernel_rfl) (fun _ _ _ h => h) (Or.inr ⟨by kernel_rfl, rfl⟩) (by with_reducible assumption) ?_
                try simp only [Act.put, List.getElem_toArray, List.getElem_cons_succ, List.getElem_cons_zero, List.setIfInBounds_toArray, List.set_cons_zero, List.set_cons_succ]
                refine wpAnyH_take (i := 63) (v := undef) rfl (by kernel_rfl) (by kernel_rfl) (by kernel_rfl) (fun _ _ _ h => h) (Or.inr ⟨by kernel_rfl, rfl⟩) (by with_reducible assumption) ?_
                try simp only [Act.put, List.getElem_toArray, List.getElem_cons_succ, List.getElem_cons_zero, List.setIfInBounds_toArray, List.set_cons_zero, List.set_cons_succ]
                refine wpAnyH_take (i := 64) (v := undef) rfl (by kernel_rfl) (by kernel_rfl) (by kernel_rfl) (fun _ _ _ h => h) (Or.inr ⟨by kernel_rfl, rfl⟩) (by with_reducible assumption) ?_
                try simp only [Act.put, List.getElem_toArray, List.getElem_cons_succ, List.getElem_cons_zero, List.setIfInBounds_toArray, List.set_cons_zero, List.set_cons_succ]
                refine wpAnyH_take (i := 65) (v := undef) rfl (by kernel_rfl) (by kernel_rfl) (by kernel_rfl) (fun _ _ _ h => h) (Or.inr ⟨by kernel_rfl, rfl⟩) (by with_reducible assumption) ?_
                try simp only [Act.put, List.getElem_toArray, List.getElem_cons_succ, List.getElem_cons_zero, List.setIfInBounds_toArray, List.set_cons_zero, List.set_cons_succ]
                refine wpAnyH_take (i := 66) (v := .bool false) rfl (by kernel_rfl) (by kernel_rfl) (by kernel_rfl) (fun _ _ _ h => h) (Or.inl ⟨by kernel_rfl, fun w' hSw => ?_⟩) (by with_reducible assumption) ?_
                · clear hSw
                  go_simp
                try simp only [Act.put, List.getElem_toArray, List.getElem_cons_succ, List.getElem_cons_zero, List.setIfInBounds_toArray, List.set_cons_zero, List.set_cons_succ]
                refine wpAnyH_take (i := 67) (v := .bool false) rfl (by kernel_rfl) (by kernel_rfl) (by kernel_rfl) (fun _ _ _ h => h) (Or.inl ⟨by kernel_rfl, fun w' hSw => ?_⟩) (by with_reducible assumption) ?_
                · clear hSw
                  go_simp
                try simp only [Act.put, List.getElem_toArray, List.getElem_cons_succ, List.getElem_cons_zero, List.setIfInBounds_toArray, List.set_cons_zero, List.set_cons_succ]
                refine wpAnyH_done (by kernel_rfl) ?_ _
                clear hHeld
                have HKq := hide1 (gtrans HKx.out HKwy2.out)
                clear s0 s1 s2 s3
                go_wp2_with fail
                exact ⟨⟨x + 1, ClH_of _ (by kernel_rfl), by omega, HKq⟩, by simp [intOf]; omega⟩
            | false =>
              obtain ⟨hY, hall, hmn, yb, yo, hay, hyr⟩ := HL0.out rfl
              subst hay
              have hmn := hmn.symm
              subst hmn
              have m0 := (HMr.out.keep HKx.out).cell (HMA.out (by trivial) x hxn)
              have q1 := HCx.out.2.2.1 x hxn
              obtain ⟨_, ya, yc, k4, hyr2⟩ := (hyr.keep (gtrans HKr.out HKx.out)) x hxn
              obtain ⟨r, hr⟩ := Option.isSome_iff_exists.1 (hall x hxn)
              replace k4 : wx.cell? ⟨yb, yo + x, none⟩ = some (.slice ya ((L x).getD []).length yc) := k4
              replace hyr2 : IntsR wx (.slice ya ((L x).getD []).length yc) ((L x).getD []) := hyr2
              rw [hr] at k4 hyr2
              replace k4 : wx.cell? ⟨yb, yo + x, none⟩ = some (.slice ya r.length yc) := k4
              replace hyr2 : IntsR wx (.slice ya r.length yc) r := hyr2
              have hem := yield_empty hY hr
              cases r with
              | nil =>
                have hEx : E x = true := (HE.out x).2 (hem.1 rfl)
                rw [hEx] at q1
                have HM0 := hide1 m0
                have HQ1 := hide1 q1
                have HK4 : Hid (wx.cell? ⟨yb, yo + x, none⟩ = some (.slice ya 0 yc)) := hide1 k4
                clear hY hall hyr hyr2 hem hr hEx m0 q1 k4
                go_upto_region 32 with fail
                as_aux_lemma =>
                  refine wp_region_held_drew (S := fun X => Kept wx X) (by kernel_rfl) (Kept.refl wx) (fun hHeld => ?_)
                  refine wpAnyH_take (i := 0) (v := .pointer (some ⟨tb, 1, none⟩)) rfl (by kernel_rfl) (by kernel_rfl) (by kernel_rfl) (fun _ _ _ h => h) (Or.inl ⟨by kernel_rfl, fun w' hSw => ?_⟩) (by with_reducible assumption) ?_
                  · clear hSw
                    go_simp
                  try simp only [Act.put, List.getElem_toArray, List.getElem_cons_succ, List.getElem_cons_zero, List.setIfInBounds_toArray, List.set_cons_zero, List.set_cons_succ]
                  refine wpAnyH_take (i := 1) (v := .slice (some ⟨g2, 0, none⟩) nn nn) rfl (by kernel_rfl) (by kernel_rfl) (by kernel_rfl) (fun _ _ _ h => h) (Or.inl ⟨by kernel_rfl, fun w' hSw => ?_⟩) (by with_reducible assumption) ?_
                  · obtain ⟨f0, f1, f2, f3, f4⟩ := (TdBox.cells (HCx.out.keep hSw).2.1).1
                    clear hSw
                    go_simp
                  try simp only [Act.put, List.getElem_toArray, List.getElem_cons_succ, List.getElem_cons_zero, List.setIfInBounds_toArray, List.set_cons_zero, List.set_cons_succ]
                  refine wpAnyH_take (i := 2) (v := .int .i64 (x : Int)) rfl (by kernel_rfl) (by kernel_rfl) (by kernel_rfl) (fun _ _ _ h => h) (Or.inl ⟨by kernel_rfl, fun w' hSw => ?_⟩) (by with_reducible assumption) ?_
                  · clear hSw
                    go_simp
                  try simp only [Act.put, List.getElem_toArray, List.getElem_cons_succ, List.getElem_cons_zero, List.setIfInBounds_toArray, List.set_cons_zero, List.set_cons_succ]
                  refine wpAnyH_take (i := 3) (v := .pointer (some ⟨g2, x, none⟩)) rfl (by kernel_rfl) (by kernel_rfl) (by kernel_rfl) (fun _ _ _ h => h) (Or.inl ⟨by kernel_rfl, fun w' hSw => ?_⟩) (by with_reducible assumption) ?_
                  · clear hSw
                    go_simp
                  try simp only [Act.put, List.getElem_toArray, List.getElem_cons_succ, List.getElem_cons_zero, List.setIfInBounds_toArray, List.set_cons_zero, List.set_cons_succ]
                  refine wpAnyH_take (i := 4) (v := .slice fa fn fc) rfl (by kernel_rfl) (by kernel_rfl) (by kernel_rfl) (fun _ _ _ h => h) (Or.inl ⟨by kernel_rfl, fun w' hSw => ?_⟩) (by with_reducible assumption) ?_
                  · have s0 := grown_cell hSw HK2.out
                    clear hSw
                    go_simp
                  try simp only [Act.put, List.getElem_toArray, List.getElem_cons_succ, List.getElem_cons_zero, List.setIfInBounds_toArray, List.set_cons_zero, List.set_cons_succ]
                  refine wpAnyH_ready (rs := [5]) (by kernel_rfl) (by simp) ?_
                  refine AllReadyH.cons (i := 5) rfl (fun K hK => ?_) AllReadyH.nil
                  go_simp
                  go_wp2_with (go_at_call 19; refine (rising_q fa fn fc _ (HR1.out.keep (drew_kept wx))).mono ?_; rintro e wy1 ⟨rfl, qq, hwy⟩; have HKwy1 : Hid (Kept wx wy1) := hide1 (by rw [hwy]; exact gtrans (drew_kept wx) (drewN_kept _ _)); clear hwy)
                  refine hK.out _ _ HKwy1.out (fun hHeld2 => ?_)
                  clear hK K hHeld
                  have hHeld := hHeld2
                  clear hHeld2
                  try simp only [Act.put, List.setIfInBounds_toArray, List.set_cons_zero, List.set_cons_succ]
                  refine wpAnyH_take (i := 6) (v := .bool false) rfl (by kernel_rfl) (by kernel_rfl) (by kernel_rfl) (fun _ _ _ h => h) (Or.inl ⟨by kernel_rfl, fun w' hSw => ?_⟩) (by with_reducible assumption) ?_
                  · clear hSw
                    go_simp
                  try simp only [Act.put, List.getElem_toArray, List.getElem_cons_succ, List.getElem_cons_zero, List.setIfInBounds_toArray, List.set_cons_zero, List.set_cons_succ]
                  refine wpAnyH_take (i := 7) (v := .bool false) rfl (by kernel_rfl) (by kernel_rfl) (by kernel_rfl) (fun _ _ _ h => h) (Or.inl ⟨by kernel_rfl, fun w' hSw => ?_⟩) (by with_reducible assumption) ?_
                  · clear hSw
                    go_simp
                  try simp only [Act.put, List.getElem_toArray, List.getElem_cons_succ, List.getElem_cons_zero, List.setIfInBounds_toArray, List.set_cons_zero, List.set_cons_succ]
                  refine wpAnyH_take (i := 8) (v := .pointer (some ⟨tb, 2, none⟩)) rfl (by kernel_rfl) (by kernel_rfl) (by kernel_rfl) (fun _ _ _ h => h) (Or.inl ⟨by kernel_rfl, fun w' hSw => ?_⟩) (by with_reducible assumption) ?_
                  · clear hSw
                    go_simp
                  try simp only [Act.put, List.getElem_toArray, List.getElem_cons_succ, List.getElem_cons_zero, List.setIfInBounds_toArray, List.set_cons_zero, List.set_cons_succ]
                  refine wpAnyH_take (i := 9) (v := .slice (some ⟨g3, 0, none⟩) nn nn) rfl (by kernel_rfl) (by kernel_rfl) (by kernel_rfl) (fun _ _ _ h => h) (Or.inl ⟨by kernel_rfl, fun w' hSw => ?_⟩) (by with_reducible assumption) ?_
                  · obtain ⟨f0, f1, f2, f3, f4⟩ := (TdBox.cells (HCx.out.keep hSw).2.1).1
                    clear hSw
                    go_simp
                  try simp only [Act.put, List.getElem_toArray, List.getElem_cons_succ, List.getElem_cons_zero, List.setIfInBounds_toArray, List.set_cons_zero, List.set_cons_succ]
                  refine wpAnyH_take (i := 10) (v := .int .i64 (x : Int)) rfl (by kernel_rfl) (by kernel_rfl) (by kernel_rfl) (fun _ _ _ h => h) (Or.inl ⟨by kernel_rfl, fun w' hSw => ?_⟩) (by with_reducible assumption) ?_
                  · clear hSw
                    go_simp
                  try simp only [Act.put, List.getElem_toArray, List.getElem_cons_succ, List.getElem_cons_zero, List.setIfInBounds_toArray, List.set_cons_zero, List.set_cons_succ]
                  refine wpAnyH_take (i := 11) (v := .pointer (some ⟨g3, x, none⟩)) rfl (by kernel_rfl) (by kernel_rfl) (by kernel_rfl) (fun _ _ _ h => h) (Or.inl ⟨by kernel_rfl, fun w' hSw => ?_⟩) (by with_reducible assumption) ?_
                  · clear hSw
                    go_simp
                  try simp only [Act.put, List.getElem_toArray, List.getElem_cons_succ, List.getElem_cons_zero, List.setIfInBounds_toArray, List.set_cons_zero, List.set_cons_succ]
                  refine wpAnyH_take (i := 12) (v := .slice ga gn gc) rfl (by kernel_rfl) (by kernel_rfl) (by kernel_rfl) (fun _ _ _ h => h) (Or.inl ⟨by kernel_rfl, fun w' hSw => ?_⟩) (by with_reducible assumption) ?_
                  · have s0 := grown_cell hSw HK3x.out
                    clear hSw
                    go_simp
                  try simp only [Act.put, List.getElem_toArray, List.getElem_cons_succ, List.getElem_cons_zero, List.setIfInBounds_toArray, List.set_cons_zero, List.set_cons_succ]
                  refine wpAnyH_ready (rs := [13]) (by kernel_rfl) (by simp) ?_
                  refine AllReadyH.cons (i := 13) rfl (fun K hK => ?_) AllReadyH.nil
                  go_simp
                  go_wp2_with (go_at_call 19; refine (rising_q ga gn gc _ (HR2.out.keep HKwy1.out)).mono ?_; rintro e wy2 ⟨rfl, qq, hwy⟩; have HKwy2 : Hid (Kept wx wy2) := hide1 (by rw [hwy]; exact gtrans HKwy1.out (drewN_kept _ _)); clear hwy)
                  refine hK.out _ _ HKwy2.out (fun hHeld2 => ?_)
                  clear hK K hHeld
                  have hHeld := hHeld2
                  clear hHeld2
                  try simp only [Act.put, List.setIfInBounds_toArray, List.set_cons_zero, List.set_cons_succ]
                  refine wpAnyH_take (i := 14) (v := .bool false) rfl (by kernel_rfl) (by kernel_rfl) (by kernel_rfl) (fun _ _ _ h => h) (Or.inl ⟨by kernel_rfl, fun w' hSw => ?_⟩) (by with_reducible assumption) ?_
                  · clear hSw
                    go_simp
                  try simp only [Act.put, List.getElem_toArray, List.getElem_cons_succ, List.getElem_cons_zero, List.setIfInBounds_toArray, List.set_cons_zero, List.set_cons_succ]
                  refine wpAnyH_take (i := 15) (v := .bool false) rfl (by kernel_rfl) (by kernel_rfl) (by kernel_rfl) (fun _ _ _ h => h) (Or.inl ⟨by kernel_rfl, fun w' hSw => ?_⟩) (by with_reducible assumption) ?_
                  · clear hSw
                    go_simp
                  try simp only [Act.put, List.getElem_toArray, List.getElem_cons_succ, List.getElem_cons_zero, List.setIfInBounds_toArray, List.set_cons_zero, List.set_cons_succ]
                  refine wpAnyH_take (i := 16) (v := .bool false) rfl (by kernel_rfl) (by kernel_rfl) (by kernel_rfl) (fun _ _ _ h => h) (Or.inl ⟨by kernel_rfl, fun w' hSw => ?_⟩) (by with_reducible assumption) ?_
                  · clear hSw
                    go_simp
                  try simp only [Act.put, List.getElem_toArray, List.getElem_cons_succ, List.getElem_cons_zero, List.setIfInBounds_toArray, List.set_cons_zero, List.set_cons_succ]
                  refine wpAnyH_take (i := 17) (v := .pointer (some ⟨tb, 4, none⟩)) rfl (by kernel_rfl) (by kernel_rfl) (by kernel_rfl) (fun _ _ _ h => h) (Or.inl ⟨by kernel_rfl, fun w' hSw => ?_⟩) (by with_reducible assumption) ?_
                  · clear hSw
                    go_simp
                  try simp only [Act.put, List.getElem_toArray, List.getElem_cons_succ, List.getElem_cons_zero, List.setIfInBounds_toArray, List.set_cons_zero, List.set_cons_succ]
                  refine wpAnyH_take (i := 18) (v := .bool false) rfl (by kernel_rfl) (by kernel_rfl) (by kernel_rfl) (fun _ _ _ h => h) (Or.inl ⟨by kernel_rfl, fun w' hSw => ?_⟩) (by with_reducible assumption) ?_
                  · obtain ⟨f0, f1, f2, f3, f4⟩ := (TdBox.cells (HCx.out.keep hSw).2.1).1
                    clear hSw
                    go_simp
                  try simp only [Act.put, List.getElem_toArray, List.getElem_cons_succ, List.getElem_cons_zero, List.setIfInBounds_toArray, List.set_cons_zero, List.set_cons_succ]
                  refine wpAnyH_take (i := 19) (v := .bool true) rfl (by kernel_rfl) (by kernel_rfl) (by kernel_rfl) (fun _ _ _ h => h) (Or.inl ⟨by kernel_rfl, fun w' hSw => ?_⟩) (by with_reducible assumption) ?_
                  · clear hSw
                    go_simp
                  try simp only [Act.put, List.getElem_toArray, List.getElem_cons_succ, List.getElem_cons_zero, List.setIfInBounds_toArray, List.set_cons_zero, List.set_cons_succ]
                  refine wpAnyH_take (i := 20) (v := .bool true) rfl (by kernel_rfl) (by kernel_rfl) (by kernel_rfl) (fun _ _ _ h => h) (Or.inl ⟨by kernel_rfl, fun w' hSw => ?_⟩) (by with_reducible assumption) ?_
                  · clear hSw
                    go_simp
                  try simp only [Act.put, List.getElem_toArray, List.getElem_cons_succ, List.getElem_cons_zero, List.setIfInBounds_toArray, List.set_cons_zero, List.set_cons_succ]
                  refine wpAnyH_take (i := 21) (v := .slice (some ⟨mb, 0, none⟩) nn nn) rfl (by kernel_rfl) (by kernel_rfl) (by kernel_rfl) (fun _ _ _ h => h) (Or.inl ⟨by kernel_rfl, fun w' hSw => ?_⟩) (by with_reducible assumption) ?_
                  · clear hSw
                    go_simp
                  try simp only [Act.put, List.getElem_toArray, List.getElem_cons_succ, List.getElem_cons_zero, List.setIfInBounds_toArray, List.set_cons_zero, List.set_cons_succ]
                  refine wpAnyH_take (i := 22) (v := .int .i64 (x : Int)) rfl (by kernel_rfl) (by kernel_rfl) (by kernel_rfl) (fun _ _ _ h => h) (Or.inl ⟨by kernel_rfl, fun w' hSw => ?_⟩) (by with_reducible assumption) ?_
                  · clear hSw
                    go_simp
                  try simp only [Act.put, List.getElem_toArray, List.getElem_cons_succ, List.getElem_cons_zero, List.setIfInBounds_toArray, List.set_cons_zero, List.set_cons_succ]
                  refine wpAnyH_take (i := 23) (v := .pointer (some ⟨mb, x, none⟩)) rfl (by kernel_rfl) (by kernel_rfl) (by kernel_rfl) (fun _ _ _ h => h) (Or.inl ⟨by kernel_rfl, fun w' hSw => ?_⟩) (by with_reducible assumption) ?_
                  · clear hSw
                    go_simp
                  try simp only [Act.put, List.getElem_toArray, List.getElem_cons_succ, List.getElem_cons_zero, List.setIfInBounds_toArray, List.set_cons_zero, List.set_cons_succ]
                  refine wpAnyH_take (i := 24) (v := .bool true) rfl (by kernel_rfl) (by kernel_rfl) (by kernel_rfl) (fun _ _ _ h => h) (Or.inl ⟨by kernel_rfl, fun w' hSw => ?_⟩) (by with_reducible assumption) ?_
                  · have s0 := grown_cell hSw HM0.out
                    clear hSw
                    go_simp
                  try simp only [Act.put, List.getElem_toArray, List.getElem_cons_succ, List.getElem_cons_zero, List.setIfInBounds_toArray, List.set_cons_zero, List.set_cons_succ]
                  refine wpAnyH_take (i := 25) (v := .bool false) rfl (by kernel_rfl) (by kernel_rfl) (by kernel_rfl) (fun _ _ _ h => h) (Or.inl ⟨by kernel_rfl, fun w' hSw => ?_⟩) (by with_reducible assumption) ?_
                  · clear hSw
                    go_simp
                  try simp only [Act.put, List.getElem_toArray, List.getElem_cons_succ, List.getElem_cons_zero, List.setIfInBounds_toArray, List.set_cons_zero, List.set_cons_succ]
                  refine wpAnyH_take (i := 26) (v := .bool false) rfl (by kernel_rfl) (by kernel_rfl) (by kernel_rfl) (fun _ _ _ h => h) (Or.inl ⟨by kernel_rfl, fun w' hSw => ?_⟩) (by with_reducible assumption) ?_
                  · clear hSw
                    go_simp
                  try simp only [Act.put, List.getElem_toArray, List.getElem_cons_succ, List.getElem_cons_zero, List.setIfInBounds_toArray, List.set_cons_zero, List.set_cons_succ]
                  refine wpAnyH_take (i := 27) (v := .pointer (some ⟨tb, 3, none⟩)) rfl (by kernel_rfl) (by kernel_rfl) (by kernel_rfl) (fun _ _ _ h => h) (Or.inl ⟨by kernel_rfl, fun w' hSw => ?_⟩) (by with_reducible assumption) ?_
                  · clear hSw
                    go_simp
                  try simp only [Act.put, List.getElem_toArray, List.getElem_cons_succ, List.getElem_cons_zero, List.setIfInBounds_toArray, List.set_cons_zero, List.set_cons_succ]
                  refine wpAnyH_take (i := 28) (v := .slice (some ⟨yb, yo, none⟩) nn nn) rfl (by kernel_rfl) (by kernel_rfl) (by kernel_rfl) (fun _ _ _ h => h) (Or.inl ⟨by kernel_rfl, fun w' hSw => ?_⟩) (by with_reducible assumption) ?_
                  · obtain ⟨f0, f1, f2, f3, f4⟩ := (TdBox.cells (HCx.out.keep hSw).2.1).1
                    clear hSw
                    go_simp
                  try simp only [Act.put, List.getElem_toArray, List.getElem_cons_succ, List.getElem_cons_zero, List.setIfInBounds_toArray, List.set_cons_zero, List.set_cons_succ]
                  refine wpAnyH_take (i := 29) (v := .int .i64 (x : Int)) rfl (by kernel_rfl) (by kernel_rfl) (by kernel_rfl) (fun _ _ _ h => h) (Or.inl ⟨by kernel_rfl, fun w' hSw => ?_⟩) (by with_reducible assumption) ?_
                  · clear hSw
                    go_simp
                  try simp only [Act.put, List.getElem_toArray, List.getElem_cons_succ, List.getElem_cons_zero, List.setIfInBounds_toArray, List.set_cons_zero, List.set_cons_succ]
                  refine wpAnyH_take (i := 30) (v := .pointer (some ⟨yb, yo + x, none⟩)) rfl (by kernel_rfl) (by kernel_rfl) (by kernel_rfl) (fun _ _ _ h => h) (Or.inl ⟨by kernel_rfl, fun w' hSw => ?_⟩) (by with_reducible assumption) ?_
                  · clear hSw
                    go_simp
                  try simp only [Act.put, List.getElem_toArray, List.getElem_cons_succ, List.getElem_cons_zero, List.setIfInBounds_toArray, List.set_cons_zero, List.set_cons_succ]
                  refine wpAnyH_take (i := 31) (v := .slice ya 0 yc) rfl (by kernel_rfl) (by kernel_rfl) (by kernel_rfl) (fun _ _ _ h => h) (Or.inl ⟨by kernel_rfl, fun w' hSw => ?_⟩) (by with_reducible assumption) ?_
                  · have s0 := grown_cell hSw HK4.out
                    clear hSw
                    go_simp
                  try simp only [Act.put, List.getElem_toArray, List.getElem_cons_succ, List.getElem_cons_zero, List.setIfInBounds_toArray, List.set_cons_zero, List.set_cons_succ]
                  refine wpAnyH_take (i := 32) (v := .int .i64 0) rfl (by kernel_rfl) (by kernel_rfl) (by kernel_rfl) (fun _ _ _ h => h) (Or.inl ⟨by kernel_rfl, fun w' hSw => ?_⟩) (by with_reducible assumption) ?_
                  · clear hSw
                    go_simp
                  try simp only [Act.put, List.getElem_toArray, List.getElem_cons_succ, List.getElem_cons_zero, List.setIfInBounds_toArray, List.set_cons_zero, List.set_cons_succ]
                  refine wpAnyH_take (i := 33) (v := .bool true) rfl (by kernel_rfl) (by kernel_rfl) (by kernel_rfl) (fun _ _ _ h => h) (Or.inl ⟨by kernel_rfl, fun w' hSw => ?_⟩) (by with_reducible assumption) ?_
                  · clear hSw
                    go_simp
                  try simp only [Act.put, List.getElem_toArray, List.getElem_cons_succ, List.getElem_cons_zero, List.setIfInBounds_toArray, List.set_cons_zero, List.set_cons_succ]
                  refine wpAnyH_take (i := 34) (v := .pointer (some ⟨tb, 0, none⟩)) rfl (by kernel_rfl) (by kernel_rfl) (by kernel_rfl) (fun _ _ _ h => h) (Or.inl ⟨by kernel_rfl, fun w' hSw => ?_⟩) (by with_reducible assumption) ?_
                  · clear hSw
                    go_simp
                  try simp only [Act.put, List.getElem_toArray, List.getElem_cons_succ, List.getElem_cons_zero, List.setIfInBounds_toArray, List.set_cons_zero, List.set_cons_succ]
                  refine wpAnyH_take (i := 35) (v := .slice (some ⟨g1, 0, none⟩) nn nn) rfl (by kernel_rfl) (by kernel_rfl) (by kernel_rfl) (fun _ _ _ h => h) (Or.inl ⟨by kernel_rfl, fun w' hSw => ?_⟩) (by with_reducible assumption) ?_
                  · obtain ⟨f0, f1, f2, f3, f4⟩ := (TdBox.cells (HCx.out.keep hSw).2.1).1
                    clear hSw
                    go_simp
                  try simp only [Act.put, List.getElem_toArray, List.getElem_cons_succ, List.getElem_cons_zero, List.setIfInBounds_toArray, List.set_cons_zero, List.set_cons_succ]
                  refine wpAnyH_take (i := 36) (v := .int .i64 (x : Int)) rfl (by kernel_rfl) (by kernel_rfl) (by kernel_rfl) (fun _ _ _ h => h) (Or.inl ⟨by kernel_rfl, fun w' hSw => ?_⟩) (by with_reducible assumption) ?_
                  · clear hSw
                    go_simp
                  try simp only [Act.put, List.getElem_toArray, List.getElem_cons_succ, List.getElem_cons_zero, List.setIfInBounds_toArray, List.set_cons_zero, List.set_cons_succ]
                  refine wpAnyH_take (i := 37) (v := .pointer (some ⟨g1, x, none⟩)) rfl (by kernel_rfl) (by kernel_rfl) (by kernel_rfl) (fun _ _ _ h => h) (Or.inl ⟨by kernel_rfl, fun w' hSw => ?_⟩) (by with_reducible assumption) ?_
                  · clear hSw
                    go_simp
                  try simp only [Act.put, List.getElem_toArray, List.getElem_cons_succ, List.getElem_cons_zero, List.setIfInBounds_toArray, List.set_cons_zero, List.set_cons_succ]
                  refine wpAnyH_take (i := 38) (v := .bool true) rfl (by kernel_rfl) (by kernel_rfl) (by kernel_rfl) (fun _ _ _ h => h) (Or.inl ⟨by kernel_rfl, fun w' hSw => ?_⟩) (by with_reducible assumption) ?_
                  · have s0 := grown_cell hSw HQ1.out
                    clear hSw
                    go_simp
                  try simp only [Act.put, List.getElem_toArray, List.getElem_cons_succ, List.getElem_cons_zero, List.setIfInBounds_toArray, List.set_cons_zero, List.set_cons_succ]
                  refine wpAnyH_take (i := 39) (v := .bool false) rfl (by kernel_rfl) (by kernel_rfl) (by kernel_rfl) (fun _ _ _ h => h) (Or.inl ⟨by kernel_rfl, fun w' hSw => ?_⟩) (by with_reducible assumption) ?_
                  · clear hSw
                    go_simp
                  try simp only [Act.put, List.getElem_toArray, List.getElem_cons_succ, List.getElem_cons_zero, List.setIfInBounds_toArray, List.set_cons_zero, List.set_cons_succ]
                  refine wpAnyH_take (i := 40) (v := .bool false) rfl (by kernel_rfl) (by kernel_rfl) (by kernel_rfl) (fun _ _ _ h => h) (Or.inl ⟨by kernel_rfl, fun w' hSw => ?_⟩) (by with_reducible assumption) ?_
                  · clear hSw
                    go_simp
                  try simp only [Act.put, List.getElem_toArray, List.getElem_cons_succ, List.getElem_cons_zero, List.setIfInBounds_toArray, List.set_cons_zero, List.set_cons_succ]
                  refine wpAnyH_take (i := 41) (v := .bool false) rfl (by kernel_rfl) (by kernel_rfl) (by kernel_rfl) (fun _ _ _ h => h) (Or.inl ⟨by kernel_rfl, fun w' hSw => ?_⟩) (by with_reducible assumption) ?_
                  · clear hSw
                    go_simp
                  try simp only [Act.put, List.getElem_toArray, List.getElem_cons_succ, List.getElem_cons_zero, List.setIfInBounds_toArray, List.set_cons_zero, List.set_cons_succ]
                  refine wpAnyH_take (i := 42) (v := .pointer (some ⟨tb, 3, none⟩)) rfl (by kernel_rfl) (by kernel_rfl) (by kernel_rfl) (fun _ _ _ h => h) (Or.inl ⟨by kernel_rfl, fun w' hSw => ?_⟩) (by with_reducible assumption) ?_
                  · clear hSw
                    go_simp
                  try simp only [Act.put, List.getElem_toArray, List.getElem_cons_succ, List.getElem_cons_zero, List.setIfInBounds_toArray, List.set_cons_zero, List.set_cons_succ]
                  refine wpAnyH_take (i := 43) (v := .slice (some ⟨yb, yo, none⟩) nn nn) rfl (by kernel_rfl) (by kernel_rfl) (by kernel_rfl) (fun _ _ _ h => h) (Or.inl ⟨by kernel_rfl, fun w' hSw => ?_⟩) (by with_reducible assumption) ?_
                  · obtain ⟨f0, f1, f2, f3, f4⟩ := (TdBox.cells (HCx.out.keep hSw).2.1).1
                    clear hSw
                    go_simp
                  try simp only [Act.put, List.getElem_toArray, List.getElem_cons_succ, List.getElem_cons_zero, List.setIfInBounds_toArray, List.set_cons_zero, List.set_cons_succ]
                  refine wpAnyH_take (i := 44) (v := .int .i64 (x : Int)) rfl (by kernel_rfl) (by kernel_rfl) (by kernel_rfl) (fun _ _ _ h => h) (Or.inl ⟨by kernel_rfl, fun w' hSw => ?_⟩) (by with_reducible assumption) ?_
                  · clear hSw
                    go_simp
                  try simp only [Act.put, List.getElem_toArray, List.getElem_cons_succ, List.getElem_cons_zero, List.setIfInBounds_toArray, List.set_cons_zero, List.set_cons_succ]
                  refine wpAnyH_take (i := 45) (v := .pointer (some ⟨yb, yo + x, none⟩)) rfl (by kernel_rfl) (by kernel_rfl) (by kernel_rfl) (fun _ _ _ h => h) (Or.inl ⟨by kernel_rfl, fun w' hSw => ?_⟩) (by with_reducible assumption) ?_
                  · clear hSw
                    go_simp
                  try simp only [Act.put, List.getElem_toArray, List.getElem_cons_succ, List.getElem_cons_zero, List.setIfInBounds_toArray, List.set_cons_zero, List.set_cons_succ]
                  refine wpAnyH_take (i := 46) (v := .slice ya 0 yc) rfl (by kernel_rfl) (by kernel_rfl) (by kernel_rfl) (fun _ _ _ h => h) (Or.inl ⟨by kernel_rfl, fun w' hSw => ?_⟩) (by with_reducible assumption) ?_
                  · have s0 := grown_cell hSw HK4.out
                    clear hSw
                    go_simp
                  try simp only [Act.put, List.getElem_toArray, List.getElem_cons_succ, List.getElem_cons_zero, List.setIfInBounds_toArray, List.set_cons_zero, List.set_cons_succ]
                  refine wpAnyH_take (i := 47) (v := .int .i64 0) rfl (by kernel_rfl) (by kernel_rfl) (by kernel_rfl) (fun _ _ _ h => h) (Or.inl ⟨by kernel_rfl, fun w' hSw => ?_⟩) (by with_reducible assumption) ?_
                  · clear hSw
                    go_simp
                  try simp only [Act.put, List.getElem_toArray, List.getElem_cons_succ, List.getElem_cons_zero, List.setIfInBounds_toArray, List.set_cons_zero, List.set_cons_succ]
                  refine wpAnyH_take (i := 48) (v := .bool false) rfl (by kernel_rfl) (by kernel_rfl) (by kernel_rfl) (fun _ _ _ h => h) (Or.inl ⟨by kernel_rfl, fun w' hSw => ?_⟩) (by with_reducible assumption) ?_
                  · clear hSw
                    go_simp
                  try simp only [Act.put, List.getElem_toArray, List.getElem_cons_succ, List.getElem_cons_zero, List.setIfInBounds_toArray, List.set_cons_zero, List.set_cons_succ]
                  refine wpAnyH_take (i := 49) (v := .bool false) rfl (by kernel_rfl) (by kernel_rfl) (by kernel_rfl) (fun _ _ _ h => h) (Or.inl ⟨by kernel_rfl, fun w' hSw => ?_⟩) (by with_reducible assumption) ?_
                  · clear hSw
                    go_simp
                  try simp only [Act.put, List.getElem_toArray, List.getElem_cons_succ, List.getElem_cons_zero, List.setIfInBounds_toArray, List.set_cons_zero, List.set_cons_succ]
                  refine wpAnyH_take (i := 50) (v := undef) rfl (by kernel_rfl) (by kernel_rfl) (by kernel_rfl) (fun _ _ _ h => h) (Or.inr ⟨by kernel_rfl, rfl⟩) (by with_reducible assumption) ?_
                  try simp only [Act.put, List.getElem_toArray, List.getElem_cons_succ, List.getElem_cons_zero, List.setIfInBounds_toArray, List.set_cons_zero, List.set_cons_succ]
                  refine wpAnyH_take (i := 51) (v := undef) rfl (by kernel_rfl) (by kernel_rfl) (by kernel_rfl) (fun _ _ _ h => h) (Or.inr ⟨by kernel_rfl, rfl⟩) (by with_reducible assumption) ?_
                  try simp only [Act.put, List.getElem_toArray, List.getElem_cons_succ, List.getElem_cons_zero, List.setIfInBounds_toArray, List.set_cons_zero, List.set_cons_succ]
                  refine wpAnyH_take (i := 52) (v := undef) rfl (by kernel_rfl) (by kernel_rfl) (by kernel_rfl) (fun _ _ _ h => h) (Or.inr ⟨by kernel_rfl, rfl⟩) (by with_reducible assumption) ?_
                  try simp only [Act.put, List.getElem_toArray, List.getElem_cons_succ, List.getElem_cons_zero, List.setIfInBounds_toArray, List.set_cons_zero, List.set_cons_succ]
                  refine wpAnyH_take (i := 53) (v := undef) rfl (by kernel_rfl) (by kernel_rfl) (by kernel_rfl) (fun _ _ _ h => h) (Or.inr ⟨by kernel_rfl, rfl⟩) (by with_reducible assumption) ?_
                  try simp only [Act.put, List.getElem_toArray, List.getElem_cons_succ, List.getElem_cons_zero, List.setIfInBounds_toArray, List.set_cons_zero, List.set_cons_succ]
                  refine wpAnyH_take (i := 54) (v := undef) rfl (by kernel_rfl) (by kernel_rfl) (by kernel_rfl) (fun _ _ _ h => h) (Or.inr ⟨by kernel_rfl, rfl⟩) (by with_reducible assumption) ?_
                  try simp only [Act.put, List.getElem_toArray, List.getElem_cons_succ, List.getElem_cons_zero, List.setIfInBounds_toArray, List.set_cons_zero, List.set_cons_succ]
                  refine wpAnyH_take (i := 55) (v := undef) rfl (by kernel_rfl) (by kernel_rfl) (by kernel_rfl) (fun _ _ _ h => h) (Or.inr ⟨by kernel_rfl, rfl⟩) (by with_reducible assumption) ?_
                  try simp only [Act.put, List.getElem_toArray, List.getElem_cons_succ, List.getElem_cons_zero, List.setIfInBounds_toArray, List.set_cons_zero, List.set_cons_succ]
                  refine wpAnyH_take (i := 56) (v := undef) rfl (by kernel_rfl) (by kernel_rfl) (by kernel_rfl) (fun _ _ _ h => h) (Or.inr ⟨by kernel_rfl, rfl⟩) (by with_reducible assumption) ?_
                  try simp only [Act.put, List.getElem_toArray, List.getElem_cons_succ, List.getElem_cons_zero, List.setIfInBounds_toArray, List.set_cons_zero, List.set_cons_succ]
                  refine wpAnyH_take (i := 57) (v := undef) rfl (by kernel_rfl) (by kernel_rfl) (by kernel_rfl) (fun _ _ _ h => h) (Or.inr ⟨by kernel_rfl, rfl⟩) (by with_reducible assumption) ?_
                  try simp only [Act.put, List.getElem_toArray, List.getElem_cons_succ, List.getElem_cons_zero, List.setIfInBounds_toArray, List.set_cons_zero, List.set_cons_succ]
                  refine wpAnyH_take (i := 58) (v := undef) rfl (by kernel_rfl) (by kernel_rfl) (by kernel_rfl) (fun _ _ _ h => h) (Or.inr ⟨by kernel_rfl, rfl⟩) (by with_reducible assumption) ?_
                  try simp only [Act.put, List.getElem_toArray, List.getElem_cons_succ, List.getElem_cons_zero, List.setIfInBounds_toArray, List.set_cons_zero, List.set_cons_succ]
                  refine wpAnyH_take (i := 59) (v := undef) rfl (by kernel_rfl) (by kernel_rfl) (by kernel_rfl) (fun _ _ _ h => h) (Or.inr ⟨by kernel_rfl, rfl⟩) (by with_reducible assumption) ?_
                  try simp only [Act.put, List.getElem_toArray, List.getElem_cons_succ, List.getElem_cons_zero, List.setIfInBounds_toArray, List.set_cons_zero, List.set_cons_succ]
                  refine wpAnyH_take (i := 60) (v := undef) rfl (by kernel_rfl) (by kernel_rfl) (by kernel_rfl) (fun _ _ _ h => h) (Or.inr ⟨by kernel_rfl, rfl⟩) (by with_reducible assumption) ?_
                  try simp only [Act.put, List.getElem_toArray, List.getElem_cons_succ, List.getElem_cons_zero, List.setIfInBounds_toArray, List.set_cons_zero, List.set_cons_succ]
                  refine wpAnyH_take (i := 61) (v := undef) rfl (by kernel_rfl) (by kernel_rfl) (by kernel_rfl) (fun _ _ _ h => h) (Or.inr ⟨by kernel_rfl, rfl⟩) (by with_reducible assumption) ?_
                  try simp only [Act.put, List.getElem_toArray, List.getElem_cons_succ, List.getElem_cons_zero, List.setIfInBounds_toArray, List.set_cons_zero, List.set_cons_succ]
                  refine wpAnyH_take (i := 62) (v := undef) rfl (by kernel_rfl) (by kernel_rfl) (by kernel_rfl) (fun _ _ _ h => h) (Or.inr ⟨by kernel_rfl, rfl⟩) (by with_reducible assumption) ?_
                  try simp only [Act.put, List.getElem_toArray, List.getElem_cons_succ, List.getElem_cons_zero, List.setIfInBounds_toArray, List.set_cons_zero, List.set_cons_succ]
                  refine wpAnyH_take (i := 63) (v := undef) rfl (by kernel_rfl) (by kernel_rfl) (by kernel_rfl) (fun _ _ _ h => h) (Or.inr ⟨by kernel_rfl, rfl⟩) (by with_reducible assumption) ?_
                  try simp only [Act.put, List.getElem_toArray, List.getElem_cons_succ, List.getElem_cons_zero, List.setIfInBounds_toArray, List.set_cons_zero, List.set_cons_succ]
                  refine wpAnyH_take (i := 64) (v := .bool false) rfl (by kernel_rfl) (by kernel_rfl) (by kernel_rfl) (fun _ _ _ h => h) (Or.inl ⟨by kernel_rfl, fun w' hSw => ?_⟩) (by with_reducible assumption) ?_
                  · clear hSw
                    go_simp
                  try simp only [Act.put, List.getElem_toArray, List.getElem_cons_succ, List.getElem_cons_zero, List.setIfInBounds_toArray, List.set_cons_zero, List.set_cons_succ]
                  refine wpAnyH_take (i := 65) (v := .bool false) rfl (by kernel_rfl) (by kernel_rfl) (by kernel_rfl) (fun _ _ _ h => h) (Or.inl ⟨by kernel_rfl, fun w' hSw => ?_⟩) (by with_reducible assumption) ?_
                  · clear hSw
                    go_simp
                  try simp only [Act.put, List.getElem_toArray, List.getElem_cons_succ, List.getElem_cons_zero, List.setIfInBounds_toArray, List.set_cons_zero, List.set_cons_succ]
                  refine wpAnyH_take (i := 66) (v := .bool false) rfl (by kernel_rfl) (by kernel_rfl) (by kernel_rfl) (fun _ _ _ h => h) (Or.inl ⟨by kernel_rfl, fun w' hSw => ?_⟩) (by with_reducible assumption) ?_
                  · clear hSw
                    go_simp
                  try simp only [Act.put, List.getElem_toArray, List.getElem_cons_succ, List.getElem_cons_zero, List.setIfInBounds_toArray, List.set_cons_zero, List.set_cons_succ]
                  refine wpAnyH_take (i := 67) (v := .bool false) rfl (by kernel_rfl) (by kernel_rfl) (by kernel_rfl) (fun _ _ _ h => h) (Or.inl ⟨by kernel_rfl, fun w' hSw => ?_⟩) (by with_reducible assumption) ?_
                  · clear hSw
                    go_simp
                  try simp only [Act.put, List.getElem_toArray, List.getElem_cons_succ, List.getElem_cons_zero, List.setIfInBounds_toArray, List.set_cons_zero, List.set_cons_succ]
                  refine wpAnyH_done (by kernel_rfl) ?_ _
                  clear hHeld
                  have HKq := hide1 (gtrans HKx.out HKwy2.out)
                  clear s0 s1 s2 s3
                  go_wp2_with fail
                  exact ⟨⟨x + 1, ClH_of _ (by kernel_rfl), by omega, HKq⟩, by simp [intOf]; omega⟩
              | cons t r =>
                have hEx : E x = false := by
                  cases e : E x with
                  | false => rfl
                  | true => exact absurd (hem.2 ((HE.out x).1 e)) (by simp)
                rw [hEx] at q1
                obtain ⟨u, hu, hfi⟩ := yield_first hY hr
                have HMM : Hid (t ∈ Fl x) := hide1 ((HF.out x t).2 ⟨u, hu, hfi⟩)
                obtain ⟨tg, tof, et, k5⟩ := hyr2.at_ (i := 0) (x := t) rfl
                subst et
                rw [Nat.add_zero] at k5
                obtain ⟨yn, hyn⟩ : ∃ yn, (t :: r).length = yn := ⟨_, rfl⟩
                rw [hyn] at k4 hyr2
                have hy0 : 0 < yn := by rw [← hyn]; simp
                have hyb : ((yn : Int) == 0) = false := by simp; omega
                have hyg : decide ((0 : Int) < (yn : Int)) = true := by simp; omega
                have gy1 : (0 : Int) < (yn : Int) := by omega
                have gyc : (0 : Int) < (yc : Int) := by
                  obtain ⟨_, _, q2, hc2, _⟩ := SliceOf.len hyr2
                  simp only [Value.slice.injEq] at q2
                  have := q2.2.2
                  omega
                have HM0 := hide1 m0
                have HQ1 := hide1 q1
                have HK4 := hide1 k4
                have HK5 := hide1 k5
                clear hY hall hyr hyr2 hem hr hEx hu hfi hyn m0 q1 k4 k5
                go_upto_region 32 with fail
                as_aux_lemma =>
                  refine wp_region_held_drew (S := fun X => Kept wx X) (by kernel_rfl) (Kept.refl wx) (fun hHeld => ?_)
                  refine wpAnyH_take (i := 0) (v := .pointer (some ⟨tb, 1, none⟩)) rfl (by kernel_rfl) (by kernel_rfl) (by kernel_rfl) (fun _ _ _ h => h) (Or.inl ⟨by kernel_rfl, fun w' hSw => ?_⟩) (by with_reducible assumption) ?_
                  · clear hSw
                    go_simp
                  try simp only [Act.put, List.getElem_toArray, List.getElem_cons_succ, List.getElem_cons_zero, List.setIfInBounds_toArray, List.set_cons_zero, List.set_cons_succ]
                  refine wpAnyH_take (i := 1) (v := .slice (some ⟨g2, 0, none⟩) nn nn) rfl (by kernel_rfl) (by kernel_rfl) (by kernel_rfl) (fun _ _ _ h => h) (Or.inl ⟨by kernel_rfl, fun w' hSw => ?_⟩) (by with_reducible assumption) ?_
                  · obtain ⟨f0, f1, f2, f3, f4⟩ := (TdBox.cells (HCx.out.keep hSw).2.1).1
                    clear hSw
                    go_simp
                  try simp only [Act.put, List.getElem_toArray, List.getElem_cons_succ, List.getElem_cons_zero, List.setIfInBounds_toArray, List.set_cons_zero, List.set_cons_succ]
                  refine wpAnyH_take (i := 2) (v := .int .i64 (x : Int)) rfl (by kernel_rfl) (by kernel_rfl) (by kernel_rfl) (fun _ _ _ h => h) (Or.inl ⟨by kernel_rfl, fun w' hSw => ?_⟩) (by with_reducible assumption) ?_
                  · clear hSw
                    go_simp
                  try simp only [Act.put, List.getElem_toArray, List.getElem_cons_succ, List.getElem_cons_zero, List.setIfInBounds_toArray, List.set_cons_zero, List.set_cons_succ]
                  refine wpAnyH_take (i := 3) (v := .pointer (some ⟨g2, x, none⟩)) rfl (by kernel_rfl) (by kernel_rfl) (by kernel_rfl) (fun _ _ _ h => h) (Or.inl ⟨by kernel_rfl, fun w' hSw => ?_⟩) (by with_reducible assumption) ?_
                  · clear hSw
                    go_simp
                  try simp only [Act.put, List.getElem_toArray, List.getElem_cons_succ, List.getElem_cons_zero, List.setIfInBounds_toArray, List.set_cons_zero, List.set_cons_succ]
                  refine wpAnyH_take (i := 4) (v := .slice fa fn fc) rfl (by kernel_rfl) (by kernel_rfl) (by kernel_rfl) (fun _ _ _ h => h) (Or.inl ⟨by kernel_rfl, fun w' hSw => ?_⟩) (by with_reducible assumption) ?_
                  · have s0 := grown_cell hSw HK2.out
                    clear hSw
                    go_simp
                  try simp only [Act.put, List.getElem_toArray, List.getElem_cons_succ, List.getElem_cons_zero, List.setIfInBounds_toArray, List.set_cons_zero, List.set_cons_succ]
                  refine wpAnyH_ready (rs := [5]) (by kernel_rfl) (by simp) ?_
                  refine AllReadyH.cons (i := 5) rfl (fun K hK => ?_) AllReadyH.nil
                  go_simp
                  go_wp2_with (go_at_call 19; refine (rising_q fa fn fc _ (HR1.out.keep (drew_kept wx))).mono ?_; rintro e wy1 ⟨rfl, qq, hwy⟩; have HKwy1 : Hid (Kept wx wy1) := hide1 (by rw [hwy]; exact gtrans (drew_kept wx) (drewN_kept _ _)); clear hwy)
                  refine hK.out _ _ HKwy1.out (fun hHeld2 => ?_)
                  clear hK K hHeld
                  have hHeld := hHeld2
                  clear hHeld2
                  try simp only [Act.put, List.setIfInBounds_toArray, List.set_cons_zero, List.set_cons_succ]
                  refine wpAnyH_take (i := 6) (v := .bool false) rfl (by kernel_rfl) (by kernel_rfl) (by kernel_rfl) (fun _ _ _ h => h) (Or.inl ⟨by kernel_rfl, fun w' hSw => ?_⟩) (by with_reducible assumption) ?_
                  · clear hSw
                    go_simp
                  try simp only [Act.put, List.getElem_toArray, List.getElem_cons_succ, List.getElem_cons_zero, List.setIfInBounds_toArray, List.set_cons_zero, List.set_cons_succ]
                  refine wpAnyH_take (i := 7) (v := .bool false) rfl (by kernel_rfl) (by kernel_rfl) (by kernel_rfl) (fun _ _ _ h => h) (Or.inl ⟨by kernel_rfl, fun w' hSw => ?_⟩) (by with_reducible assumption) ?_
                  · clear hSw
                    go_simp
                  try simp only [Act.put, List.getElem_toArray, List.getElem_cons_succ, List.getElem_cons_zero, List.setIfInBounds_toArray, List.set_cons_zero, List.set_cons_succ]
                  refine wpAnyH_take (i := 8) (v := .pointer (some ⟨tb, 2, none⟩)) rfl (by kernel_rfl) (by kernel_rfl) (by kernel_rfl) (fun _ _ _ h => h) (Or.inl ⟨by kernel_rfl, fun w' hSw => ?_⟩) (by with_reducible assumption) ?_
                  · clear hSw
                    go_simp
                  try simp only [Act.put, List.getElem_toArray, List.getElem_cons_succ, List.getElem_cons_zero, List.setIfInBounds_toArray, List.set_cons_zero, List.set_cons_succ]
                  refine wpAnyH_take (i := 9) (v := .slice (some ⟨g3, 0, none⟩) nn nn) rfl (by kernel_rfl) (by kernel_rfl) (by kernel_rfl) (fun _ _ _ h => h) (Or.inl ⟨by kernel_rfl, fun w' hSw => ?_⟩) (by with_reducible assumption) ?_
                  · obtain ⟨f0, f1, f2, f3, f4⟩ := (TdBox.cells (HCx.out.keep hSw).2.1).1
                    clear hSw
                    go_simp
                  try simp only [Act.put, List.getElem_toArray, List.getElem_cons_succ, List.getElem_cons_zero, List.setIfInBounds_toArray, List.set_cons_zero, List.set_cons_succ]
                  refine wpAnyH_take (i := 10) (v := .int .i64 (x : Int)) rfl (by kernel_rfl) (by kernel_rfl) (by kernel_rfl) (fun _ _ _ h => h) (Or.inl ⟨by kernel_rfl, fun w' hSw => ?_⟩) (by with_reducible assumption) ?_
                  · clear hSw
                    go_simp
                  try simp only [Act.put, List.getElem_toArray, List.getElem_cons_succ, List.getElem_cons_zero, List.setIfInBounds_toArray, List.set_cons_zero, List.set_cons_succ]
                  refine wpAnyH_take (i := 11) (v := .pointer (some ⟨g3, x, none⟩)) rfl (by kernel_rfl) (by kernel_rfl) (by kernel_rfl) (fun _ _ _ h => h) (Or.inl ⟨by kernel_rfl, fun w' hSw => ?_⟩) (by with_reducible assumption) ?_
                  · clear hSw
                    go_simp
                  try simp only [Act.put, List.getElem_toArray, List.getElem_cons_succ, List.getElem_cons_zero, List.setIfInBounds_toArray, List.set_cons_zero, List.set_cons_succ]
                  refine wpAnyH_take (i := 12) (v := .slice ga gn gc) rfl (by kernel_rfl) (by kernel_rfl) (by kernel_rfl) (fun _ _ _ h => h) (Or.inl ⟨by kernel_rfl, fun w' hSw => ?_⟩) (by with_reducible assumption) ?_
                  · have s0 := grown_cell hSw HK3x.out
                    clear hSw
                    go_simp
                  try simp only [Act.put, List.getElem_toArray, List.getElem_cons_succ, List.getElem_cons_zero, List.setIfInBounds_toArray, List.set_cons_zero, List.set_cons_succ]
                  refine wpAnyH_ready (rs := [13]) (by kernel_rfl) (by simp) ?_
                  refine AllReadyH.cons (i := 13) rfl (fun K hK => ?_) AllReadyH.nil
                  go_simp
                  go_wp2_with (go_at_call 19; refine (rising_q ga gn gc _ (HR2.out.keep HKwy1.out)).mono ?_; rintro e wy2 ⟨rfl, qq, hwy⟩; have HKwy2 : Hid (Kept wx wy2) := hide1 (by rw [hwy]; exact gtrans HKwy1.out (drewN_kept _ _)); clear hwy)
                  refine hK.out _ _ HKwy2.out (fun hHeld2 => ?_)
                  clear hK K hHeld
                  have hHeld := hHeld2
                  clear hHeld2
                  try simp only [Act.put, List.setIfInBounds_toArray, List.set_cons_zero, List.set_cons_succ]
                  refine wpAnyH_take (i := 14) (v := .bool false) rfl (by kernel_rfl) (by kernel_rfl) (by kernel_rfl) (fun _ _ _ h => h) (Or.inl ⟨by kernel_rfl, fun w' hSw => ?_⟩) (by with_reducible assumption) ?_
                  · clear hSw
                    go_simp
                  try simp only [Act.put, List.getElem_toArray, List.getElem_cons_succ, List.getElem_cons_zero, List.setIfInBounds_toArray, List.set_cons_zero, List.set_cons_succ]
                  refine wpAnyH_take (i := 15) (v := .bool false) rfl (by kernel_rfl) (by kernel_rfl) (by kernel_rfl) (fun _ _ _ h => h) (Or.inl ⟨by kernel_rfl, fun w' hSw => ?_⟩) (by with_reducible assumption) ?_
                  · clear hSw
                    go_simp
                  try simp only [Act.put, List.getElem_toArray, List.getElem_cons_succ, List.getElem_cons_zero, List.setIfInBounds_toArray, List.set_cons_zero, List.set_cons_succ]
                  refine wpAnyH_take (i := 16) (v := .bool false) rfl (by kernel_rfl) (by kernel_rfl) (by kernel_rfl) (fun _ _ _ h => h) (Or.inl ⟨by kernel_rfl, fun w' hSw => ?_⟩) (by with_reducible assumption) ?_
                  · clear hSw
                    go_simp
                  try simp only [Act.put, List.getElem_toArray, List.getElem_cons_succ, List.getElem_cons_zero, List.setIfInBounds_toArray, List.set_cons_zero, List.set_cons_succ]
                  refine wpAnyH_take (i := 17) (v := .pointer (some ⟨tb, 4, none⟩)) rfl (by kernel_rfl) (by kernel_rfl) (by kernel_rfl) (fun _ _ _ h => h) (Or.inl ⟨by kernel_rfl, fun w' hSw => ?_⟩) (by with_reducible assumption) ?_
                  · clear hSw
                    go_simp
                  try simp only [Act.put, List.getElem_toArray, List.getElem_cons_succ, List.getElem_cons_zero, List.setIfInBounds_toArray, List.set_cons_zero, List.set_cons_succ]
                  refine wpAnyH_take (i := 18) (v := .bool false) rfl (by kernel_rfl) (by kernel_rfl) (by kernel_rfl) (fun _ _ _ h => h) (Or.inl ⟨by kernel_rfl, fun w' hSw => ?_⟩) (by with_reducible assumption) ?_
                  · obtain ⟨f0, f1, f2, f3, f4⟩ := (TdBox.cells (HCx.out.keep hSw).2.1).1
                    clear hSw
                    go_simp
                  try simp only [Act.put, List.getElem_toArray, List.getElem_cons_succ, List.getElem_cons_zero, List.setIfInBounds_toArray, List.set_cons_zero, List.set_cons_succ]
                  refine wpAnyH_take (i := 19) (v := .bool true) rfl (by kernel_rfl) (by kernel_rfl) (by kernel_rfl) (fun _ _ _ h => h) (Or.inl ⟨by kernel_rfl, fun w' hSw => ?_⟩) (by with_reducible assumption) ?_
                  · clear hSw
                    go_simp
                  try simp only [Act.put, List.getElem_toArray, List.getElem_cons_succ, List.getElem_cons_zero, List.setIfInBounds_toArray, List.set_cons_zero, List.set_cons_succ]
                  refine wpAnyH_take (i := 20) (v := .bool true) rfl (by kernel_rfl) (by kernel_rfl) (by kernel_rfl) (fun _ _ _ h => h) (Or.inl ⟨by kernel_rfl, fun w' hSw => ?_⟩) (by with_reducible assumption) ?_
                  · clear hSw
                    go_simp
                  try simp only [Act.put, List.getElem_toArray, List.getElem_cons_succ, List.getElem_cons_zero, List.setIfInBounds_toArray, List.set_cons_zero, List.set_cons_succ]
                  refine wpAnyH_take (i := 21) (v := .slice (some ⟨mb, 0, none⟩) nn nn) rfl (by kernel_rfl) (by kernel_rfl) (by kernel_rfl) (fun _ _ _ h => h) (Or.inl ⟨by kernel_rfl, fun w' hSw => ?_⟩) (by with_reducible assumption) ?_
                  · clear hSw
                    go_simp
                  try simp only [Act.put, List.getElem_toArray, List.getElem_cons_succ, List.getElem_cons_zero, List.setIfInBounds_toArray, List.set_cons_zero, List.set_cons_succ]
                  refine wpAnyH_take (i := 22) (v := .int .i64 (x : Int)) rfl (by kernel_rfl) (by kernel_rfl) (by kernel_rfl) (fun _ _ _ h => h) (Or.inl ⟨by kernel_rfl, fun w' hSw => ?_⟩) (by with_reducible assumption) ?_
                  · clear hSw
                    go_simp
                  try simp only [Act.put, List.getElem_toArray, List.getElem_cons_succ, List.getElem_cons_zero, List.setIfInBounds_toArray, List.set_cons_zero, List.set_cons_succ]
                  refine wpAnyH_take (i := 23) (v := .pointer (some ⟨mb, x, none⟩)) rfl (by kernel_rfl) (by kernel_rfl) (by kernel_rfl) (fun _ _ _ h => h) (Or.inl ⟨by kernel_rfl, fun w' hSw => ?_⟩) (by with_reducible assumption) ?_
                  · clear hSw
                    go_simp
                  try simp only [Act.put, List.getElem_toArray, List.getElem_cons_succ, List.getElem_cons_zero, List.setIfInBounds_toArray, List.set_cons_zero, List.set_cons_succ]
                  refine wpAnyH_take (i := 24) (v := .bool true) rfl (by kernel_rfl) (by kernel_rfl) (by kernel_rfl) (fun _ _ _ h => h) (Or.inl ⟨by kernel_rfl, fun w' hSw => ?_⟩) (by with_reducible assumption) ?_
                  · have s0 := grown_cell hSw HM0.out
                    clear hSw
                    go_simp
                  try simp only [Act.put, List.getElem_toArray, List.getElem_cons_succ, List.getElem_cons_zero, List.setIfInBounds_toArray, List.set_cons_zero, List.set_cons_succ]
                  refine wpAnyH_take (i := 25) (v := .bool false) rfl (by kernel_rfl) (by kernel_rfl) (by kernel_rfl) (fun _ _ _ h => h) (Or.inl ⟨by kernel_rfl, fun w' hSw => ?_⟩) (by with_reducible assumption) ?_
                  · clear hSw
                    go_simp
                  try simp only [Act.put, List.getElem_toArray, List.getElem_cons_succ, List.getElem_cons_zero, List.setIfInBounds_toArray, List.set_cons_zero, List.set_cons_succ]
                  refine wpAnyH_take (i := 26) (v := .bool false) rfl (by kernel_rfl) (by kernel_rfl) (by kernel_rfl) (fun _ _ _ h => h) (Or.inl ⟨by kernel_rfl, fun w' hSw => ?_⟩) (by with_reducible assumption) ?_
                  · clear hSw
                    go_simp
                  try simp only [Act.put, List.getElem_toArray, List.getElem_cons_succ, List.getElem_cons_zero, List.setIfInBounds_toArray, List.set_cons_zero, List.set_cons_succ]
                  refine wpAnyH_take (i := 27) (v := .pointer (some ⟨tb, 3, none⟩)) rfl (by kernel_rfl) (by kernel_rfl) (by kernel_rfl) (fun _ _ _ h => h) (Or.inl ⟨by kernel_rfl, fun w' hSw => ?_⟩) (by with_reducible assumption) ?_
                  · clear hSw
                    go_simp
                  try simp only [Act.put, List.getElem_toArray, List.getElem_cons_succ, List.getElem_cons_zero, List.setIfInBounds_toArray, List.set_cons_zero, List.set_cons_succ]
                  refine wpAnyH_take (i := 28) (v := .slice (some ⟨yb, yo, none⟩) nn nn) rfl (by kernel_rfl) (by kernel_rfl) (by kernel_rfl) (fun _ _ _ h => h) (Or.inl ⟨by kernel_rfl, fun w' hSw => ?_⟩) (by with_reducible assumption) ?_
                  · obtain ⟨f0, f1, f2, f3, f4⟩ := (TdBox.cells (HCx.out.keep hSw).2.1).1
                    clear hSw
                    go_simp
                  try simp only [Act.put, List.getElem_toArray, List.getElem_cons_succ, List.getElem_cons_zero, List.setIfInBounds_toArray, List.set_cons_zero, List.set_cons_succ]
                  refine wpAnyH_take (i := 29) (v := .int .i64 (x : Int)) rfl (by kernel_rfl) (by kernel_rfl) (by kernel_rfl) (fun _ _ _ h => h) (Or.inl ⟨by kernel_rfl, fun w' hSw => ?_⟩) (by with_reducible assumption) ?_
                  · clear hSw
                    go_simp
                  try simp only [Act.put, List.getElem_toArray, List.getElem_cons_succ, List.getElem_cons_zero, List.setIfInBounds_toArray, List.set_cons_zero, List.set_cons_succ]
                  refine wpAnyH_take (i := 30) (v := .pointer (some ⟨yb, yo + x, none⟩)) rfl (by kernel_rfl) (by kernel_rfl) (by kernel_rfl) (fun _ _ _ h => h) (Or.inl ⟨by kernel_rfl, fun w' hSw => ?_⟩) (by with_reducible assumption) ?_
                  · clear hSw
                    go_simp
                  try simp only [Act.put, List.getElem_toArray, List.getElem_cons_succ, List.getElem_cons_zero, List.setIfInBounds_toArray, List.set_cons_zero, List.set_cons_succ]
                  refine wpAnyH_take (i := 31) (v := .slice (some ⟨tg, tof, none⟩) yn yc) rfl (by kernel_rfl) (by kernel_rfl) (by kernel_rfl) (fun _ _ _ h => h) (Or.inl ⟨by kernel_rfl, fun w' hSw => ?_⟩) (by with_reducible assumption) ?_
                  · have s0 := grown_cell hSw HK4.out
                    clear hSw
                    go_simp
                  try simp only [Act.put, List.getElem_toArray, List.getElem_cons_succ, List.getElem_cons_zero, List.setIfInBounds_toArray, List.set_cons_zero, List.set_cons_succ]
                  refine wpAnyH_take (i := 32) (v := .int .i64 (yn : Int)) rfl (by kernel_rfl) (by kernel_rfl) (by kernel_rfl) (fun _ _ _ h => h) (Or.inl ⟨by kernel_rfl, fun w' hSw => ?_⟩) (by with_reducible assumption) ?_
                  · clear hSw
                    go_simp
                  try simp only [Act.put, List.getElem_toArray, List.getElem_cons_succ, List.getElem_cons_zero, List.setIfInBounds_toArray, List.set_cons_zero, List.set_cons_succ]
                  refine wpAnyH_take (i := 33) (v := .bool false) rfl (by kernel_rfl) (by kernel_rfl) (by kernel_rfl) (fun _ _ _ h => h) (Or.inl ⟨by kernel_rfl, fun w' hSw => ?_⟩) (by with_reducible assumption) ?_
                  · clear hSw
                    go_simp
                  try simp only [Act.put, List.getElem_toArray, List.getElem_cons_succ, List.getElem_cons_zero, List.setIfInBounds_toArray, List.set_cons_zero, List.set_cons_succ]
                  refine wpAnyH_take (i := 34) (v := .pointer (some ⟨tb, 0, none⟩)) rfl (by kernel_rfl) (by kernel_rfl) (by kernel_rfl) (fun _ _ _ h => h) (Or.inl ⟨by kernel_rfl, fun w' hSw => ?_⟩) (by with_reducible assumption) ?_
                  · clear hSw
                    go_simp
                  try simp only [Act.put, List.getElem_toArray, List.getElem_cons_succ, List.getElem_cons_zero, List.setIfInBounds_toArray, List.set_cons_zero, List.set_cons_succ]
                  refine wpAnyH_take (i := 35) (v := .slice (some ⟨g1, 0, none⟩) nn nn) rfl (by kernel_rfl) (by kernel_rfl) (by kernel_rfl) (fun _ _ _ h => h) (Or.inl ⟨by kernel_rfl, fun w' hSw => ?_⟩) (by with_reducible assumption) ?_
                  · obtain ⟨f0, f1, f2, f3, f4⟩ := (TdBox.cells (HCx.out.keep hSw).2.1).1
                    clear hSw
                    go_simp
                  try simp only [Act.put, List.getElem_toArray, List.getElem_cons_succ, List.getElem_cons_zero, List.setIfInBounds_toArray, List.set_cons_zero, List.set_cons_succ]
                  refine wpAnyH_take (i := 36) (v := .int .i64 (x : Int)) rfl (by kernel_rfl) (by kernel_rfl) (by kernel_rfl) (fun _ _ _ h => h) (Or.inl ⟨by kernel_rfl, fun w' hSw => ?_⟩) (by with_reducible assumption) ?_
                  · clear hSw
                    go_simp
                  try simp only [Act.put, List.getElem_toArray, List.getElem_cons_succ, List.getElem_cons_zero, List.setIfInBounds_toArray, List.set_cons_zero, List.set_cons_succ]
                  refine wpAnyH_take (i := 37) (v := .pointer (some ⟨g1, x, none⟩)) rfl (by kernel_rfl) (by kernel_rfl) (by kernel_rfl) (fun _ _ _ h => h) (Or.inl ⟨by kernel_rfl, fun w' hSw => ?_⟩) (by with_reducible assumption) ?_
                  · clear hSw
                    go_simp
                  try simp only [Act.put, List.getElem_toArray, List.getElem_cons_succ, List.getElem_cons_zero, List.setIfInBounds_toArray, List.set_cons_zero, List.set_cons_succ]
                  refine wpAnyH_take (i := 38) (v := .bool false) rfl (by kernel_rfl) (by kernel_rfl) (by kernel_rfl) (fun _ _ _ h => h) (Or.inl ⟨by kernel_rfl, fun w' hSw => ?_⟩) (by with_reducible assumption) ?_
                  · have s0 := grown_cell hSw HQ1.out
                    clear hSw
                    go_simp
                  try simp only [Act.put, List.getElem_toArray, List.getElem_cons_succ, List.getElem_cons_zero, List.setIfInBounds_toArray, List.set_cons_zero, List.set_cons_succ]
                  refine wpAnyH_take (i := 39) (v := .bool false) rfl (by kernel_rfl) (by kernel_rfl) (by kernel_rfl) (fun _ _ _ h => h) (Or.inl ⟨by kernel_rfl, fun w' hSw => ?_⟩) (by with_reducible assumption) ?_
                  · clear hSw
                    go_simp
                  try simp only [Act.put, List.getElem_toArray, List.getElem_cons_succ, List.getElem_cons_zero, List.setIfInBounds_toArray, List.set_cons_zero, List.set_cons_succ]
                  refine wpAnyH_take (i := 40) (v := .bool false) rfl (by kernel_rfl) (by kernel_rfl) (by kernel_rfl) (fun _ _ _ h => h) (Or.inl ⟨by kernel_rfl, fun w' hSw => ?_⟩) (by with_reducible assumption) ?_
                  · clear hSw
                    go_simp
                  try simp only [Act.put, List.getElem_toArray, List.getElem_cons_succ, List.getElem_cons_zero, List.setIfInBounds_toArray, List.set_cons_zero, List.set_cons_succ]
                  refine wpAnyH_take (i := 41) (v := .bool false) rfl (by kernel_rfl) (by kernel_rfl) (by kernel_rfl) (fun _ _ _ h => h) (Or.inl ⟨by kernel_rfl, fun w' hSw => ?_⟩) (by with_reducible assumption) ?_
                  · clear hSw
                    go_simp
                  try simp only [Act.put, List.getElem_toArray, List.getElem_cons_succ, List.getElem_cons_zero, List.setIfInBounds_toArray, List.set_cons_zero, List.set_cons_succ]
                  refine wpAnyH_take (i := 42) (v := .pointer (some ⟨tb, 3, none⟩)) rfl (by kernel_rfl) (by kernel_rfl) (by kernel_rfl) (fun _ _ _ h => h) (Or.inl ⟨by kernel_rfl, fun w' hSw => ?_⟩) (by with_reducible assumption) ?_
                  · clear hSw
                    go_simp
                  try simp only [Act.put, List.getElem_toArray, List.getElem_cons_succ, List.getElem_cons_zero, List.setIfInBounds_toArray, List.set_cons_zero, List.set_cons_succ]
                  refine wpAnyH_take (i := 43) (v := .slice (some ⟨yb, yo, none⟩) nn nn) rfl (by kernel_rfl) (by kernel_rfl) (by kernel_rfl) (fun _ _ _ h => h) (Or.inl ⟨by kernel_rfl, fun w' hSw => ?_⟩) (by with_reducible assumption) ?_
                  · obtain ⟨f0, f1, f2, f3, f4⟩ := (TdBox.cells (HCx.out.keep hSw).2.1).1
                    clear hSw
                    go_simp
                  try simp only [Act.put, List.getElem_toArray, List.getElem_cons_succ, List.getElem_cons_zero, List.setIfInBounds_toArray, List.set_cons_zero, List.set_cons_succ]
                  refine wpAnyH_take (i := 44) (v := .int .i64 (x : Int)) rfl (by kernel_rfl) (by kernel_rfl) (by kernel_rfl) (fun _ _ _ h => h) (Or.inl ⟨by kernel_rfl, fun w' hSw => ?_⟩) (by with_reducible assumption) ?_
                  · clear hSw
                    go_simp
                  try simp only [Act.put, List.getElem_toArray, List.getElem_cons_succ, List.getElem_cons_zero, List.setIfInBounds_toArray, List.set_cons_zero, List.set_cons_succ]
                  refine wpAnyH_take (i := 45) (v := .pointer (some ⟨yb, yo + x, none⟩)) rfl (by kernel_rfl) (by kernel_rfl) (by kernel_rfl) (fun _ _ _ h => h) (Or.inl ⟨by kernel_rfl, fun w' hSw => ?_⟩) (by with_reducible assumption) ?_
                  · clear hSw
                    go_simp
                  try simp only [Act.put, List.getElem_toArray, List.getElem_cons_succ, List.getElem_cons_zero, List.setIfInBounds_toArray, List.set_cons_zero, List.set_cons_succ]
                  refine wpAnyH_take (i := 46) (v := .slice (some ⟨tg, tof, none⟩) yn yc) rfl (by kernel_rfl) (by kernel_rfl) (by kernel_rfl) (fun _ _ _ h => h) (Or.inl ⟨by kernel_rfl, fun w' hSw => ?_⟩) (by with_reducible assumption) ?_
                  · have s0 := grown_cell hSw HK4.out
                    clear hSw
                    go_simp
                  try simp only [Act.put, List.getElem_toArray, List.getElem_cons_succ, List.getElem_cons_zero, List.setIfInBounds_toArray, List.set_cons_zero, List.set_cons_succ]
                  refine wpAnyH_take (i := 47) (v := .int .i64 (yn : Int)) rfl (by kernel_rfl) (by kernel_rfl) (by kernel_rfl) (fun _ _ _ h => h) (Or.inl ⟨by kernel_rfl, fun w' hSw => ?_⟩) (by with_reducible assumption) ?_
                  · clear hSw
                    go_simp
                  try simp only [Act.put, List.getElem_toArray, List.getElem_cons_succ, List.getElem_cons_zero, List.setIfInBounds_toArray, List.set_cons_zero, List.set_cons_succ]
                  refine wpAnyH_take (i := 48) (v := .bool true) rfl (by kernel_rfl) (by kernel_rfl) (by kernel_rfl) (fun _ _ _ h => h) (Or.inl ⟨by kernel_rfl, fun w' hSw => ?_⟩) (by with_reducible assumption) ?_
                  · clear hSw
                    go_simp
                  try simp only [Act.put, List.getElem_toArray, List.getElem_cons_succ, List.getElem_cons_zero, List.setIfInBounds_toArray, List.set_cons_zero, List.set_cons_succ]
                  refine wpAnyH_take (i := 49) (v := .bool true) rfl (by kernel_rfl) (by kernel_rfl) (by kernel_rfl) (fun _ _ _ h => h) (Or.inl ⟨by kernel_rfl, fun w' hSw => ?_⟩) (by with_reducible assumption) ?_
                  · clear hSw
                    go_simp
                  try simp only [Act.put, List.getElem_toArray, List.getElem_cons_succ, List.getElem_cons_zero, List.setIfInBounds_toArray, List.set_cons_zero, List.set_cons_succ]
                  refine wpAnyH_take (i := 50) (v := .pointer (some ⟨tb, 1, none⟩)) rfl (by kernel_rfl) (by kernel_rfl) (by kernel_rfl) (fun _ _ _ h => h) (Or.inl ⟨by kernel_rfl, fun w' hSw => ?_⟩) (by with_reducible assumption) ?_
                  · clear hSw
                    go_simp
                  try simp only [Act.put, List.getElem_toArray, List.getElem_cons_succ, List.getElem_cons_zero, List.setIfInBounds_toArray, List.set_cons_zero, List.set_cons_succ]
                  refine wpAnyH_take (i := 51) (v := .slice (some ⟨g2, 0, none⟩) nn nn) rfl (by kernel_rfl) (by kernel_rfl) (by kernel_rfl) (fun _ _ _ h => h) (Or.inl ⟨by kernel_rfl, fun w' hSw => ?_⟩) (by with_reducible assumption) ?_
                  · obtain ⟨f0, f1, f2, f3, f4⟩ := (TdBox.cells (HCx.out.keep hSw).2.1).1
                    clear hSw
                    go_simp
                  try simp only [Act.put, List.getElem_toArray, List.getElem_cons_succ, List.getElem_cons_zero, List.setIfInBounds_toArray, List.set_cons_zero, List.set_cons_succ]
                  refine wpAnyH_take (i := 52) (v := .int .i64 (x : Int)) rfl (by kernel_rfl) (by kernel_rfl) (by kernel_rfl) (fun _ _ _ h => h) (Or.inl ⟨by kernel_rfl, fun w' hSw => ?_⟩) (by with_reducible assumption) ?_
                  · clear hSw
                    go_simp
                  try simp only [Act.put, List.getElem_toArray, List.getElem_cons_succ, List.getElem_cons_zero, List.setIfInBounds_toArray, List.set_cons_zero, List.set_cons_succ]
                  refine wpAnyH_take (i := 53) (v := .pointer (some ⟨g2, x, none⟩)) rfl (by kernel_rfl) (by kernel_rfl) (by kernel_rfl) (fun _ _ _ h => h) (Or.inl ⟨by kernel_rfl, fun w' hSw => ?_⟩) (by with_reducible assumption) ?_
                  · clear hSw
                    go_simp
                  try simp only [Act.put, List.getElem_toArray, List.getElem_cons_succ, List.getElem_cons_zero, List.setIfInBounds_toArray, List.set_cons_zero, List.set_cons_succ]
                  refine wpAnyH_take (i := 54) (v := .slice fa fn fc) rfl (by kernel_rfl) (by kernel_rfl) (by kernel_rfl) (fun _ _ _ h => h) (Or.inl ⟨by kernel_rfl, fun w' hSw => ?_⟩) (by with_reducible assumption) ?_
                  · have s0 := grown_cell hSw HK2.out
                    clear hSw
                    go_simp
                  try simp only [Act.put, List.getElem_toArray, List.getElem_cons_succ, List.getElem_cons_zero, List.setIfInBounds_toArray, List.set_cons_zero, List.set_cons_succ]
                  refine wpAnyH_take (i := 55) (v := .pointer (some ⟨tb, 3, none⟩)) rfl (by kernel_rfl) (by kernel_rfl) (by kernel_rfl) (fun _ _ _ h => h) (Or.inl ⟨by kernel_rfl, fun w' hSw => ?_⟩) (by with_reducible assumption) ?_
                  · clear hSw
                    go_simp
                  try simp only [Act.put, List.getElem_toArray, List.getElem_cons_succ, List.getElem_cons_zero, List.setIfInBounds_toArray, List.set_cons_zero, List.set_cons_succ]
                  refine wpAnyH_take (i := 56) (v := .slice (some ⟨yb, yo, none⟩) nn nn) rfl (by kernel_rfl) (by kernel_rfl) (by kernel_rfl) (fun _ _ _ h => h) (Or.inl ⟨by kernel_rfl, fun w' hSw => ?_⟩) (by with_reducible assumption) ?_
                  · obtain ⟨f0, f1, f2, f3, f4⟩ := (TdBox.cells (HCx.out.keep hSw).2.1).1
                    clear hSw
                    go_simp
                  try simp only [Act.put, List.getElem_toArray, List.getElem_cons_succ, List.getElem_cons_zero, List.setIfInBounds_toArray, List.set_cons_zero, List.set_cons_succ]
                  refine wpAnyH_take (i := 57) (v := .int .i64 (x : Int)) rfl (by kernel_rfl) (by kernel_rfl) (by kernel_rfl) (fun _ _ _ h => h) (Or.inl ⟨by kernel_rfl, fun w' hSw => ?_⟩) (by with_reducible assumption) ?_
                  · clear hSw
                    go_simp
                  try simp only [Act.put, List.getElem_toArray, List.getElem_cons_succ, List.getElem_cons_zero, List.setIfInBounds_toArray, List.set_cons_zero, List.set_cons_succ]
                  refine wpAnyH_take (i := 58) (v := .pointer (some ⟨yb, yo + x, none⟩)) rfl (by kernel_rfl) (by kernel_rfl) (by kernel_rfl) (fun _ _ _ h => h) (Or.inl ⟨by kernel_rfl, fun w' hSw => ?_⟩) (by with_reducible assumption) ?_
                  · clear hSw
                    go_simp
                  try simp only [Act.put, List.getElem_toArray, List.getElem_cons_succ, List.getElem_cons_zero, List.setIfInBounds_toArray, List.set_cons_zero, List.set_cons_succ]
                  refine wpAnyH_take (i := 59) (v := .slice (some ⟨tg, tof, none⟩) yn yc) rfl (by kernel_rfl) (by kernel_rfl) (by kernel_rfl) (fun _ _ _ h => h) (Or.inl ⟨by kernel_rfl, fun w' hSw => ?_⟩) (by with_reducible assumption) ?_
                  · have s0 := grown_cell hSw HK4.out
                    clear hSw
                    go_simp
                  try simp only [Act.put, List.getElem_toArray, List.getElem_cons_succ, List.getElem_cons_zero, List.setIfInBounds_toArray, List.set_cons_zero, List.set_cons_succ]
                  refine wpAnyH_take (i := 60) (v := .pointer (some ⟨tg, tof, none⟩)) rfl (by kernel_rfl) (by kernel_rfl) (by kernel_rfl) (fun _ _ _ h => h) (Or.inl ⟨by kernel_rfl, fun w' hSw => ?_⟩) (by with_reducible assumption) ?_
                  · clear hSw
                    go_simp
                  try simp only [Act.put, List.getElem_toArray, List.getElem_cons_succ, List.getElem_cons_zero, List.setIfInBounds_toArray, List.set_cons_zero, List.set_cons_succ]
                  refine wpAnyH_take (i := 61) (v := .int .i64 t) rfl (by kernel_rfl) (by kernel_rfl) (by kernel_rfl) (fun _ _ _ h => h) (Or.inl ⟨by kernel_rfl, fun w' hSw => ?_⟩) (by with_reducible assumption) ?_
                  · have s0 := grown_cell hSw HK5.out
                    clear hSw
                    go_simp
                  try simp only [Act.put, List.getElem_toArray, List.getElem_cons_succ, List.getElem_cons_zero, List.setIfInBounds_toArray, List.set_cons_zero, List.set_cons_succ]
                  refine wpAnyH_ready (rs := [62]) (by kernel_rfl) (by simp) ?_
                  refine AllReadyH.cons (i := 62) rfl (fun K hK => ?_) AllReadyH.nil
                  go_simp
                  go_wp2_with (go_at_call 13; refine (lHas_yes fa fn fc (Fl x) t _ HFN.out (HFR.out.keep HKwy2.out) HMM.out).mono ?_; rintro e w7 ⟨rfl, hw7⟩; have hw7 := hw7.symm; subst hw7)
                  refine hK.out _ _ HKwy2.out (fun hHeld2 => ?_)
                  clear hK K hHeld
                  have hHeld := hHeld2
                  clear hHeld2
                  try simp only [Act.put, List.setIfInBounds_toArray, List.set_cons_zero, List.set_cons_succ]
                  refine wpAnyH_take (i := 63) (v := .bool false) rfl (by kernel_rfl) (by kernel_rfl) (by kernel_rfl) (fun _ _ _ h => h) (Or.inl ⟨by kernel_rfl, fun w' hSw => ?_⟩) (by with_reducible assumption) ?_
                  · clear hSw
                    go_simp
                  try simp only [Act.put, List.getElem_toArray, List.getElem_cons_succ, List.getElem_cons_zero, List.setIfInBounds_toArray, List.set_cons_zero, List.set_cons_succ]
                  refine wpAnyH_take (i := 64) (v := .bool false) rfl (by kernel_rfl) (by kernel_rfl) (by kernel_rfl) (fun _ _ _ h => h) (Or.inl ⟨by kernel_rfl, fun w' hSw => ?_⟩) (by with_reducible assumption) ?_
                  · clear hSw
                    go_simp
                  try simp only [Act.put, List.getElem_toArray, List.getElem_cons_succ, List.getElem_cons_zero, List.setIfInBounds_toArray, List.set_cons_zero, List.set_cons_succ]
                  refine wpAnyH_take (i := 65) (v := .bool false) rfl (by kernel_rfl) (by kernel_rfl) (by kernel_rfl) (fun _ _ _ h => h) (Or.inl ⟨by kernel_rfl, fun w' hSw => ?_⟩) (by with_reducible assumption) ?_
                  · clear hSw
                    go_simp
                  try simp only [Act.put, List.getElem_toArray, List.getElem_cons_succ, List.getElem_cons_zero, List.setIfInBounds_toArray, List.set_cons_zero, List.set_cons_succ]
                  refine wpAnyH_take (i := 66) (v := .bool false) rfl (by kernel_rfl) (by kernel_rfl) (by kernel_rfl) (fun _ _ _ h => h) (Or.inl ⟨by kernel_rfl, fun w' hSw => ?_⟩) (by with_reducible assumption) ?_
                  · clear hSw
                    go_simp
                  try simp only [Act.put, List.getElem_toArray, List.getElem_cons_succ, List.getElem_cons_zero, List.setIfInBounds_toArray, List.set_cons_zero, List.set_cons_succ]
                  refine wpAnyH_take (i := 67) (v := .bool false) rfl (by kernel_rfl) (by kernel_rfl) (by kernel_rfl) (fun _ _ _ h => h) (Or.inl ⟨by kernel_rfl, fun w' hSw => ?_⟩) (by with_reducible assumption) ?_
                  · clear hSw
                    go_simp
                  try simp only [Act.put, List.getElem_toArray, List.getElem_cons_succ, List.getElem_cons_zero, List.setIfInBounds_toArray, List.set_cons_zero, List.set_cons_succ]
                  refine wpAnyH_done (by kernel_rfl) ?_ _
                  clear hHeld
                  have HKq := hide1 (gtrans HKx.out HKwy2.out)
                  clear s0 s1 s2 s3
                  go_wp2_with fail
                  exact ⟨⟨x + 1, ClH_of _ (by kernel_rfl), by omega, HKq⟩, by simp [intOf]; omega⟩
          · have HKe := hide1 (gtrans HKw3.out (gtrans HKr.out HKx.out))
            go_wp2_with fail
            go_ret
            exact ⟨rfl, HKe.out⟩

end Ex
end Go.Proofs.YtjomglclefbffaaDoor
