import Derived.Test.YtpbnjdnlgcfiiaaExPat
import Derived.Deep.Slices
import Derived.SizedLaws
import Derived.ChangeSlices
namespace Go.Proofs.Ytpbnjdnlgcfiiaa
open Go.RowKit Go.ChangeShapes Go.WideShapes Go.ChangeAt
namespace Ex

section
variable {H : Type} {enc : TypeId × Value → H}

theorem weights_all {P : Program} {e : TypeId} : ∀ {ds : List (DataW H)} {d : DataW H}, d ∈ ds → ∀ n ∈ d.weights P e, n ∈ DataW.weightsAll P e ds
  | x :: r, d, hd, n, hn => by
    simp only [DataW.weightsAll, List.mem_append]
    rcases List.mem_cons.1 hd with rfl | hd
    · exact .inl hn
    · exact .inr (weights_all hd n hn)
  | [], _, hd, _, _ => by cases hd
theorem six {α : Type} : ∀ {l : List α}, l.length = 6 → ∃ a b c d e f, l = [a, b, c, d, e, f]
  | [a, b, c, d, e, f], _ => ⟨a, b, c, d, e, f, rfl⟩
  | [], h => by simp at h
  | [_], h => by simp at h
  | [_, _], h => by simp at h
  | [_, _, _], h => by simp at h
  | [_, _, _, _], h => by simp at h
  | [_, _, _, _, _], h => by simp at h
  | _ :: _ :: _ :: _ :: _ :: _ :: _ :: _, h => by simp at h
theorem int_size : Try.prog.cellsOf 3 = 1 := by kernel_rfl
theorem weights_field {P : Program} {t : TypeId} {fs : Array Field} (ht : P.underlying t = some (.struct fs)) {y0 y1 y2 y3 y4 y5 : DataW H} {f0 f1 f2 f3 f4 f5 : Field} (hf : fs = #[f0, f1, f2, f3, f4, f5]) : ∀ n ∈ y5.weights P f5.type, n ∈ (DataW.agg [y0, y1, y2, y3, y4, y5]).weights P t := by
  intro n hn
  subst hf
  simp only [DataW.weights, ht]
  simp only [List.map_cons, List.map_nil, DataW.weightsEach, List.mem_append]
  right; right; right; right; right; left
  exact hn

end

end Ex
end Go.Proofs.Ytpbnjdnlgcfiiaa
