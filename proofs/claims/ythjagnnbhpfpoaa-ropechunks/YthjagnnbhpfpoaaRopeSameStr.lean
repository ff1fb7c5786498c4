import Derived.Test.YthjagnnbhpfpoaaRopeCount
import Derived.Laws.BytesArg
namespace Go.Proofs.Ythjagnnbhpfpoaa
open Go.RowKit
namespace Rope

theorem bytesOf_inj : ∀ {xs ys : List Int}, Byt xs → Byt ys → Lib.bytesOf xs = Lib.bytesOf ys → xs = ys := by
  intro xs ys hx hy h2
  unfold Lib.bytesOf at h2
  induction xs generalizing ys with
  | nil => cases ys with
    | nil => rfl
    | cons y r => cases h2
  | cons x r ih => cases ys with
    | nil => cases h2
    | cons y s =>
      rw [List.map_cons, List.map_cons, List.cons.injEq] at h2
      have b1 := hx x (List.mem_cons_self ..)
      have b2 := hy y (List.mem_cons_self ..)
      have e := congrArg UInt8.toNat h2.1
      rw [UInt8.toNat_ofNat_of_lt' (by show x.toNat < 256; omega), UInt8.toNat_ofNat_of_lt' (by show y.toNat < 256; omega)] at e
      rw [ih (fun z hz => hx z (List.mem_cons_of_mem _ hz)) (fun z hz => hy z (List.mem_cons_of_mem _ hz)) h2.2]
      congr 1
      omega

theorem conv_str {S : Nat → Prop} {w : World} {v : Value} {xs : List Int} (h : SliceAt S w v xs) : (convert 22 9 v).run Try.prog w = .ok (.string (strOfNums xs)) w := by
  obtain ⟨c, o, cap, rfl, _, _, hc, _⟩ := h
  exact run_convert_bytes_arg w 22 5 Try.underlying22 Try.underlying5 c o xs.length cap xs rfl (fun i hi => by rw [hc i xs[i] (List.getElem?_eq_getElem hi)]; simp [List.getD, List.getElem?_eq_getElem hi]) 9 Try.underlying9

set_option maxRecDepth 100000 in
set_option maxHeartbeats 2000000 in
theorem bEqual_any (S S' : Nat → Prop) (u v : Value) (xs ys : List Int) (w : World) (hx : SliceAt S w u xs) (hy : SliceAt S' w v ys) :
    Calls Try.prog 42 #[u, v] w fun e w' => e = .returned (.bool (decide (xs = ys))) ∧ w' = w := by
  have k1 := conv_str hx
  have k2 := conv_str hy
  have hbx : Byt xs := by obtain ⟨_, _, _, _, _, _, _, h⟩ := hx; exact h
  have hby : Byt ys := by obtain ⟨_, _, _, _, _, _, _, h⟩ := hy; exact h
  have HI : Hid ((Lib.bytesOf xs == Lib.bytesOf ys) = decide (xs = ys)) := by
    show _ = _
    by_cases e : xs = ys
    · subst e; simp
    · rw [decide_eq_false e, beq_eq_false_iff_ne]; exact fun h => e (bytesOf_inj hbx hby h)
  clear hbx hby
  obtain ⟨c, o, cap, rfl, _⟩ := hx
  obtain ⟨c', o', cap', rfl, _⟩ := hy
  go_enter Try.func42, Try.ntmps42
  go_wp2
  go_ret
  refine ⟨?_, rfl⟩
  show Ending.returned (Value.bool ((strOfNums xs).toList == (strOfNums ys).toList)) = _
  rw [Lib.strOfNums_toList, Lib.strOfNums_toList, HI.out]

end Rope
end Go.Proofs.Ythjagnnbhpfpoaa
