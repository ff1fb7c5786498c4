import Derived.Test.YthjagnnbhpfpoaaRopeEqual
namespace Go.Proofs.Ythjagnnbhpfpoaa
open Go.RowKit
attribute [local go_sem] Oper.semAt_some
namespace Rope

theorem reader_zero (S : Nat → Prop) (r : Value) (xs : List Int) (w : World) (D : Nat) (h : RopeAt S w r xs) (hw : w.heap.size = D) (hS : ∀ c, D < c → S c) (hD : ¬ S D) :
    Calls Try.prog 40 #[r, .int .i64 0] w fun e w' => e = .returned (.pointer (some ⟨D, 0, none⟩)) ∧ Kept w w' ∧ ∃ pc rs, ReaderAt S w' D 0 pc rs ∧ pc ++ rs = xs := by
  subst hw
  exact reader_rope S r 0 xs w h hS hD (Nat.zero_le _)

/-- Which root tells what. -/
def Told (p q : Option Addr) (la ea lb eb : Int) (r : Value) (l e : Int) : Prop := (r = .pointer p ∧ l = la ∧ e = ea) ∨ (r = .pointer q ∧ l = lb ∧ e = eb)
theorem told_tree {S : Nat → Prop} {w : World} {p q : Option Addr} {xs ys : List Int} (h1 : TreeAt S w (.pointer p) xs) (h2 : TreeAt S w (.pointer q) ys) :
    ∀ W r l e, Told p q xs.length (ends xs) ys.length (ends ys) r l e → Kept w W → Calls Try.prog 33 #[r] W fun e' w' => e' = .returned (.agg #[.int .i64 l, .int .i64 e]) ∧ Kept W w' := by
  rintro W r l e (⟨rfl, rfl, rfl⟩ | ⟨rfl, rfl, rfl⟩) hk
  · exact tell_tree S _ xs W (h1.grown hk)
  · exact tell_tree S _ ys W (h2.grown hk)

set_option maxRecDepth 100000 in
set_option maxHeartbeats 4000000 in
theorem equal_sizes (b c : Nat) (p q : Option Addr) (la ea lb eb : Int) (w : World) (hb : w.cell? ⟨b, 0, none⟩ = some (.pointer p)) (hc : w.cell? ⟨c, 0, none⟩ = some (.pointer q)) (hr : ∀ n, (binOp .eql 71 (.pointer p) (.pointer q)).run Try.prog (w.drewN n) = .ok (.bool false) (w.drewN n))
    (HT : Hid (∀ W r l e, Told p q la ea lb eb r l e → Kept w W → Calls Try.prog 33 #[r] W fun e' w' => e' = .returned (.agg #[.int .i64 l, .int .i64 e]) ∧ Kept W w')) (hne : ¬ (la = lb ∧ ea = eb)) :
    Calls Try.prog 21 #[.pointer (some ⟨b, 0, none⟩), .pointer (some ⟨c, 0, none⟩)] w fun e w' => e = .returned (.bool false) ∧ Kept w w' := by
  have hr0 : (binOp .eql 71 (.pointer p) (.pointer q)).run Try.prog w = .ok (.bool false) w := hr 0
  have hsz := size_neq
  have hgd : ∀ (x y : Operand) (xs ys : Array Value) (w : World), (eqGuard .neq 76 x y (.agg xs) (.agg ys)).run Try.prog w = .ok () w := fun x y xs ys w => run_eqGuard_agg w .neq 76 x y xs ys size_guard
  have hcond : (la == lb && ea == eb) = false := by
    rcases Decidable.em (la = lb) with h | h
    · have : ¬ ea = eb := fun h' => hne ⟨h, h'⟩
      simp [this]
    · simp [h]
  have hsz' : ∀ w : World, (binOp .neq 76 (.agg #[.int .i64 la, .int .i64 ea]) (.agg #[.int .i64 lb, .int .i64 eb])).run Try.prog w = .ok (.bool true) w := fun w => by rw [hsz, hcond]; rfl
  clear hsz hcond hne
  go_enter Try.func21, Try.ntmps21
  go_wp2_with fail
  go_quiet (fail)
  go_wp2_with fail
  have k0 := keeps hb
  have k1 := keeps hc
  clear hr hr0
  go_region_held3 (fun w' => Kept w w') (first | assumption | exact Kept.refl _ | exact gtrans (by assumption) (by assumption))
    ((go_at_call 33; refine (HT.out _ _ _ _ (by first | exact .inl ⟨rfl, rfl, rfl⟩ | exact .inr ⟨rfl, rfl, rfl⟩) (by assumption)).mono ?_; rintro e w1 ⟨rfl, hg1⟩))
  have hk2 : Kept w w1 := by assumption
  clear k0 k1
  go_wp2
  go_ret
  exact ⟨rfl, hk2⟩

end Rope
end Go.Proofs.Ythjagnnbhpfpoaa
