import Derived.Test.YtbnchnlogikecaaGreatDoorNGwP
namespace Go.Proofs.YtbnchnlogikecaaGreatDoor
open Go.RowKit
attribute [local go_sem] Oper.semAt_some
set_option linter.unusedVariables false
set_option maxRecDepth 100000
namespace Ex
namespace Gu
open Sh Gs
theorem fault_eql (a b a' b' : Int) (s s' : ByteArray) (w : World) : (binOp .eql 30 (.agg #[.int .i64 a, .int .i64 b, .string s]) (.agg #[.int .i64 a', .int .i64 b', .string s'])).run Tryz.prog w = .ok (.bool (a == a' && (b == b' && s.toList == s'.toList))) w := by
  have ht : Tryz.prog.underlying 30 = some (.struct (Tryz.prog.fieldsOf 30)) := by kernel_rfl
  have hp : Tryz.prog.stoodInHeld 30 = false := by kernel_rfl
  have hf : ((Tryz.prog.fieldsOf 30).toList.map fun f => (f.name, f.type, f.offset)) = [("Err", 28, 0), ("At", 3, 1), ("Name", 9, 2)] := by kernel_rfl
  have hb : Tryz.prog.underlying 28 = some (.int .i64) := by kernel_rfl
  have hi : Tryz.prog.underlying 3 = some (.int .i64) := by kernel_rfl
  have hs : Tryz.prog.underlying 9 = some .string := by kernel_rfl
  rw [run_eql_struct, run_equalIn_struct w 9999 _ _ _ ht hp]
  obtain ⟨fs, hfs⟩ : ∃ fs, (Tryz.prog.fieldsOf 30).toList = fs := ⟨_, rfl⟩
  rw [hfs] at hf ⊢
  match fs, hf with
  | [f0, f1, f2], hf =>
    simp only [List.map_cons, List.map_nil, List.cons.injEq, Prod.mk.injEq, and_true] at hf
    obtain ⟨⟨n0, t0, o0⟩, ⟨n1, t1, o1⟩, n2, t2, o2⟩ := hf
    have hpart0 : ∀ (x y z : Value) (w : World), (part 28 #[x, y, z] 0).run Tryz.prog w = .ok x w := by
      intro x y z w
      go_simp
    have hpart1 : ∀ (x y z : Value) (w : World), (part 3 #[x, y, z] 1).run Tryz.prog w = .ok y w := by
      intro x y z w
      go_simp
    have hpart2 : ∀ (x y z : Value) (w : World), (part 9 #[x, y, z] 2).run Tryz.prog w = .ok z w := by
      intro x y z w
      go_simp
    simp only [Op.eqFields, n0, t0, o0, n1, t1, o1, n2, t2, o2, Sem.run_bind, Sem.run_ite, hpart0, hpart1, hpart2, Result.andThen_ok, run_equalIn_int w _ _ _ _ _ _ hb, run_equalIn_int w _ _ _ _ _ _ hi, run_equalIn_string w _ _ _ _ hs]
    cases h1 : (a == a') <;> cases h2 : (b == b') <;> cases h3 : (s.toList == s'.toList) <;> simp
theorem fault_same (a b : Int) (s : ByteArray) (w : World) : (binOp .eql 30 (.agg #[.int .i64 a, .int .i64 b, .string s]) (.agg #[.int .i64 a, .int .i64 b, .string s])).run Tryz.prog w = .ok (.bool true) w := by
  rw [fault_eql]
  simp
end Gu
end Ex
end Go.Proofs.YtbnchnlogikecaaGreatDoor
