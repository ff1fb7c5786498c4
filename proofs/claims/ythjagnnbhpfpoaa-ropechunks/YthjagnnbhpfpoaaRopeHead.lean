import Derived.Test.YthjagnnbhpfpoaaRopeAll
import Derived.Lib.SlBytesConst
namespace Go.Proofs.Ythjagnnbhpfpoaa
open Go.RowKit
namespace Rope

def abcd : List Int := [97, 98, 10, 99, 100]
def abxycd : List Int := [97, 98, 120, 121, 99, 100]
theorem lit_list (w : World) (xs : List Int) (n : Nat) (fr : Nat × Nat) (hn : n = xs.length) (hby : Byt xs) : ListAt (fun _ => True) (w.alloc (.cells (bytesV xs).toArray 5 fr)) (.slice (some ⟨w.heap.size, 0, none⟩) n n) xs := by
  subst hn
  refine .inr ⟨w.heap.size, 0, xs.length, rfl, Nat.le_refl _, trivial, fun j x hx => ?_, hby⟩
  rw [Nat.zero_add, World.cell?_alloc_mark, List.getElem?_toArray]
  exact bytesV_at xs j x hx
theorem lit_kept (w : World) (o : Obj) : Kept w (w.alloc o) := Kept.of ((Below.refl _ w).alloc (Nat.le_refl _) _)
theorem abcd_byt : Byt abcd := by intro x hx; simp [abcd] at hx; omega
theorem abxycd_byt : Byt abxycd := by intro x hx; simp [abxycd] at hx; omega

theorem func_nil (n : Nat) (ups : Array Value) (w : World) : (binOp .eql 66 (.func (.func n) #[] ups) .nilFunc).run Try.prog w = .ok (.bool false) w := by kernel_rfl

theorem head_splice (S S' : Nat → Prop) (r v : Value) (w : World) (h : RopeAt S w r abcd) (hv : ListAt S' w v [120, 121]) (hS : Open S w) :
    Calls Try.prog 20 #[r, .int .i64 2, .int .i64 1, v] w fun e w' => ∃ r', e = .returned (.tuple #[r', .int .i64 0]) ∧ Kept w w' ∧ RopeAt S w' r' abxycd :=
  Splice_in S S' r v abcd [120, 121] 2 1 w h hv hS (by decide) (by decide) (by decide) (by decide)
theorem head_at (S : Nat → Prop) (r : Value) (w : World) (h : RopeAt S w r abxycd) :
    Calls Try.prog 19 #[r, .int .i64 3] w fun e w' => e = .returned (.tuple #[.int .u8 121, .bool true]) ∧ Kept w w' :=
  at_in S r abxycd 3 121 w h rfl
theorem head_row (S : Nat → Prop) (r : Value) (w : World) (h : RopeAt S w r abcd) :
    Calls Try.prog 14 #[r, .int .i64 4] w fun e w' => e = .returned (.tuple #[.int .i64 1, .int .i64 1, .int .i64 0]) ∧ Kept w w' := by
  have := row_in S r abcd 4 w h (by decide)
  rw [show ends (abcd.take 4) = 1 from by decide, show behind abcd 1 = 3 from by decide] at this
  exact this
theorem head_len (S : Nat → Prop) (r : Value) (w : World) (h : RopeAt S w r abcd) :
    Calls Try.prog 16 #[r] w fun e w' => e = .returned (.int .i64 5) ∧ Kept w w' := len_any S r abcd w h
theorem head_chunks (S : Nat → Prop) (rv : Option Addr) (w : World) (h : RopeAt S w (.pointer rv) abxycd) :
    Calls Try.prog 30 #[.pointer rv, .int .i64 0] w fun e w' => e = .returned (.tuple #[.func (.func 49) #[] #[.pointer (some ⟨w.heap.size, 0, none⟩), .pointer (some ⟨w.heap.size + 1, 0, none⟩)], .int .i64 0]) ∧ Kept w w' :=
  (Chunks_in S rv abxycd 0 w h (Nat.zero_le _)).mono fun _ _ h => ⟨h.1, h.2.1⟩
theorem head_bytes (S : Nat → Prop) (r : Value) (w : World) (h : RopeAt S w r abxycd) :
    Calls Try.prog 31 #[r] w fun e w' => ∃ g cap, e = .returned (.slice (some ⟨g, 0, none⟩) 6 cap) ∧ Kept w w' ∧ ListAt (fun b => w.heap.size ≤ b) w' (.slice (some ⟨g, 0, none⟩) 6 cap) abxycd :=
  (Bytes_any S r abxycd w h).mono fun _ _ ⟨g, cap, h1, h2, _, h4⟩ => ⟨g, cap, h1, h2, h4.list abxycd_byt⟩
theorem head_same (S S' : Nat → Prop) (u v : Value) (w : World) (h1 : ListAt S w u abxycd) (h2 : ListAt S' w v abxycd) :
    Calls Try.prog 22 #[u, v] w fun e w' => e = .returned (.bool true) ∧ Kept w w' := same_any S S' u v abxycd abxycd w h1 h2 (by decide) (by decide)

set_option maxRecDepth 100000 in
set_option maxHeartbeats 4000000 in
theorem head_any (w : World) :
    Calls Try.prog 9 #[] w fun e w' => e = .returned (.bool true) ∧ Kept w w' := by
  have kc := fun (w : World) (C : Array Value) (n c : Nat) => Lib.run_convert_bytes_const (P := Try.prog) w 22 5 C n c Try.underlying22 Try.underlying5
  have kf := func_nil
  go_enter Try.func9, Try.ntmps9
  go_wp2_with (first
    | (go_at_call 10; go_must (refine (new_any (fun _ => True) (fun _ => True) _ abcd _ (lit_list w abcd 5 _ rfl abcd_byt) (fun _ _ => trivial) (by decide)).mono ?_; rintro e w1 ⟨r, rfl, hk1', hr1'⟩; have hk1 := hide1 (gtrans (lit_kept w _) hk1'); have hr1 := hide1 hr1'; obtain ⟨b1, rfl⟩ := hr1'.form; clear hk1' hr1'))
    | (go_at_call 20; go_must (refine (head_splice (fun _ => True) (fun _ => True) _ _ _ (hr1.out.kept (lit_kept w1 _)) (lit_list w1 [120, 121] 2 _ rfl (by intro x hx; simp at hx; omega)) (fun _ _ => trivial)).mono ?_; rintro e w2 ⟨s, rfl, hk2', hr2'⟩; have hk2 := hide1 (gtrans (lit_kept w1 _) hk2'); have hr2 := hide1 hr2'; obtain ⟨b2, rfl⟩ := hr2'.form; clear hk2' hr2'))
    | (go_at_call 30; go_must (refine (head_chunks (fun _ => True) _ _ hr2.out).mono ?_; rintro e w3 ⟨rfl, hk3'⟩; have hk3 := hide1 hk3'; clear hk3'))
    | (go_at_call 19; go_must (refine (head_at (fun _ => True) _ _ (hr2.out.kept hk3.out)).mono ?_; rintro e w4 ⟨rfl, hk4'⟩; have hk4 := hide1 hk4'; clear hk4'))
    | (go_at_call 14; go_must (refine (head_row (fun _ => True) _ _ (hr1.out.kept (gtrans (gtrans hk2.out hk3.out) hk4.out))).mono ?_; rintro e w5 ⟨rfl, hk5'⟩; have hk5 := hide1 hk5'; clear hk5'))
    | (go_at_call 31; go_must (refine (head_bytes (fun _ => True) _ _ (hr2.out.kept (gtrans (gtrans hk3.out hk4.out) hk5.out))).mono ?_; rintro e w6 ⟨g6, cap6, rfl, hk6', hl6'⟩; have hk6 := hide1 hk6'; have hl6 := hide1 hl6'; clear hk6' hl6'))
    | (go_at_call 22; go_must (refine (head_same _ _ _ _ _ (hl6.out.kept (lit_kept w6 _)) (lit_list w6 abxycd 6 _ rfl abxycd_byt)).mono ?_; rintro e w7 ⟨rfl, hk7'⟩; have hk7 := hide1 (gtrans (lit_kept w6 _) hk7'); clear hk7'))
    | (go_at_call 16; go_must (refine (head_len (fun _ => True) _ _ (hr1.out.kept (gtrans (gtrans (gtrans (gtrans (gtrans hk2.out hk3.out) hk4.out) hk5.out) hk6.out) hk7.out))).mono ?_; rintro e w8 ⟨rfl, hk8'⟩; have hk8 := hide1 hk8'; clear hk8')))
  go_ret
  exact ⟨rfl, gtrans (gtrans (gtrans (gtrans (gtrans (gtrans (gtrans hk1.out hk2.out) hk3.out) hk4.out) hk5.out) hk6.out) hk7.out) hk8.out⟩

end Rope
end Go.Proofs.Ythjagnnbhpfpoaa
