import Derived.Test.YthjagnnbhpfpoaaTabBack
namespace Go.Proofs.Ythjagnnbhpfpoaa
open Go.RowKit
attribute [local go_sem] Oper.semAt_some
namespace Rope

theorem prope_info : (Try.prog.info? 24).map (fun i => (i.zero, i.size, i.bytes)) = some (some (.pointer none), 1, 8) := by kernel_rfl
theorem prrope_info : (Try.prog.info? 56).map (fun i => (i.zero, i.size, i.bytes)) = some (some (.pointer none), 1, 8) := by kernel_rfl
theorem lit_one (w : World) (v : Value) (t : TypeId) : (w.alloc (.cells #[v] t)).cell? ⟨w.heap.size, 0, none⟩ = some v := by simp
theorem lit_two (w : World) (a : Addr) (u v : Value) (t : TypeId) : ((w.setCell a u).alloc (.cells #[v] t)).cell? ⟨w.heap.size, 0, none⟩ = some v := by
  have := lit_one (w.setCell a u) v t
  rwa [show (w.setCell a u).heap.size = w.heap.size by simp [World.setCell]] at this
theorem one_news {W : World} {lb : Nat} {p : Value} (hc : W.cell? ⟨lb, 0, none⟩ = some p) : ∀ (j : Nat) u, [p][j]? = some u → W.cell? ((⟨lb, 0, none⟩ : Addr).add j) = some u := by
  intro j u hu
  cases j with
  | zero => simp at hu; subst hu; exact hc
  | succ j => simp at hu

theorem wpl_add_prope {ops : Array Oper} {rest : List Oper} {o : Oper} {a : Act} {Q : Exit → Act → World → Prop} (hgd : o.guard = none) (s x : Operand)
    (ho : o.op = .call { callee := .builtin .append, args := #[s, x], argTypes := #[47, 47] }) (w W : World) (hW : Kept w W) (n0 : Nat) (vP : Value) (n : Nat) (ps : List Value) (hs : a.eval s = vP) (hown : w.ownsRow n0 24 1 vP n ps)
    (q : Option Addr) (lb : Nat) (hx : a.eval x = .slice (some ⟨lb, 0, none⟩) 1 1) (hc : W.cell? ⟨lb, 0, none⟩ = some (.pointer q)) (hn : n ≤ 1000) (hb : n0 ≤ w.heap.size)
    (h : ∀ g cap w', w'.ownsRow n0 24 1 (.slice (some ⟨g, 0, none⟩) (n + 1) cap) (n + 1) (ps ++ [.pointer q]) → W.grownBy w' vP.ownBlock → (vP.ownBlock = some g ∨ g = W.heap.size) → wpList Try.prog ops Q rest (a.put o.dst (.slice (some ⟨g, 0, none⟩) (n + 1) cap)) w') : wpList Try.prog ops Q (o :: rest) a W := by
  obtain ⟨i0, hi, hz0, hz1, hz2⟩ := info_parts prope_info
  have hown' : W.ownsRow n0 24 1 vP n ps := owns_same hown (fun g hg => hW.2.2.2.2 g (owns_lt hown g hg))
  exact wpList_append_lies W hgd s x 47 ho n0 24 i0 (.pointer none) 1 8 Try.underlying47 hi hz0 hz1 hz2 rfl (by decide) vP n ps hs hown' ⟨lb, 0, none⟩ 1 1 [.pointer q] hx rfl (one_news hc) (by intro u hu; simp at hu; subst hu; rfl) (by decide) (by unfold maxLen; omega) (by omega) (Nat.le_trans hb hW.size) W.heap.size rfl
    (fun g cap w' h1 h2 h3 _ => h g cap w' h1 h2 h3)
theorem wpl_add_prrope {ops : Array Oper} {rest : List Oper} {o : Oper} {a : Act} {Q : Exit → Act → World → Prop} (hgd : o.guard = none) (s x : Operand)
    (ho : o.op = .call { callee := .builtin .append, args := #[s, x], argTypes := #[48, 48] }) (w W : World) (hW : Kept w W) (n0 : Nat) (vP : Value) (n : Nat) (ps : List Value) (hs : a.eval s = vP) (hown : w.ownsRow n0 56 1 vP n ps)
    (q : Option Addr) (lb : Nat) (hx : a.eval x = .slice (some ⟨lb, 0, none⟩) 1 1) (hc : W.cell? ⟨lb, 0, none⟩ = some (.pointer q)) (hn : n ≤ 1000) (hb : n0 ≤ w.heap.size)
    (h : ∀ g cap w', w'.ownsRow n0 56 1 (.slice (some ⟨g, 0, none⟩) (n + 1) cap) (n + 1) (ps ++ [.pointer q]) → W.grownBy w' vP.ownBlock → (vP.ownBlock = some g ∨ g = W.heap.size) → wpList Try.prog ops Q rest (a.put o.dst (.slice (some ⟨g, 0, none⟩) (n + 1) cap)) w') : wpList Try.prog ops Q (o :: rest) a W := by
  obtain ⟨i0, hi, hz0, hz1, hz2⟩ := info_parts prrope_info
  have hown' : W.ownsRow n0 56 1 vP n ps := owns_same hown (fun g hg => hW.2.2.2.2 g (owns_lt hown g hg))
  exact wpList_append_lies W hgd s x 48 ho n0 56 i0 (.pointer none) 1 8 Try.underlying48 hi hz0 hz1 hz2 rfl (by decide) vP n ps hs hown' ⟨lb, 0, none⟩ 1 1 [.pointer q] hx rfl (one_news hc) (by intro u hu; simp at hu; subst hu; rfl) (by decide) (by unfold maxLen; omega) (by omega) (Nat.le_trans hb hW.size) W.heap.size rfl
    (fun g cap w' h1 h2 h3 _ => h g cap w' h1 h2 h3)

section
variable {n0 tb : Nat} {S : Nat → Prop} {w W w1 : World} {L M : List (List Int)} {vP vR vB : Value} {ps rs cs : List Value}
theorem Tab.stillP (h : Tab n0 S w tb L M vP vR vB ps rs cs) (hk : Kept w W) (hg : W.grownBy w1 vP.ownBlock) : w1.cell? ⟨tb, 0, none⟩ = some vP ∧ w1.frozen? ⟨tb, 0, none⟩ = false := by
  have hlt := h.lt
  have hsz := hk.size
  obtain ⟨h1, h2, h3, _, _, _, _, _, ⟨_, a2, _⟩, _⟩ := h
  have hw2 : w1.heap[tb]? = w.heap[tb]? := by rw [hg.block tb (by omega) (fun e => (a2 tb e.symm).2 rfl), hk.2.2.2.2 tb hlt]
  exact ⟨by rw [World.cell?_of_block (w := w) (a := ⟨tb, 0, none⟩) hw2]; exact h3, by rw [World.frozen?_of_block (w := w) (a := ⟨tb, 0, none⟩) hw2]; exact h2 0⟩
theorem Tab.stillR (h : Tab n0 S w tb L M vP vR vB ps rs cs) (hk : Kept w W) (hg : W.grownBy w1 vR.ownBlock) : w1.cell? ⟨tb, 1, none⟩ = some vR ∧ w1.frozen? ⟨tb, 1, none⟩ = false := by
  have hlt := h.lt
  have hsz := hk.size
  obtain ⟨h1, h2, _, h4, _, _, _, _, ⟨_, _, a3, _⟩, _⟩ := h
  have hw2 : w1.heap[tb]? = w.heap[tb]? := by rw [hg.block tb (by omega) (fun e => (a3 tb e.symm).2.1 rfl), hk.2.2.2.2 tb hlt]
  exact ⟨by rw [World.cell?_of_block (w := w) (a := ⟨tb, 1, none⟩) hw2]; exact h4, by rw [World.frozen?_of_block (w := w) (a := ⟨tb, 1, none⟩) hw2]; exact h2 1⟩
theorem add_same (h : Tab n0 S w tb L M vP vR vB ps rs cs) (hk : Kept w W) (hg : W.grownBy w1 vP.ownBlock) (v' : Value) : Same (fun x => S x ∧ x < w.heap.size) w (w1.setCell ⟨tb, 0, none⟩ v') := by
  obtain ⟨_, _, _, _, _, _, _, _, ⟨a1, a2, _⟩, _⟩ := h
  have hblk : ∀ b, S b ∧ b < w.heap.size → (w1.setCell ⟨tb, 0, none⟩ v').heap[b]? = w.heap[b]? := fun b hb => grow_heap (tb := tb) hk hg 0 v' b hb.2 (fun e => a1 (e ▸ hb.1)) (fun e => (a2 b e).1 hb.1)
  exact ⟨fun b o v hb hc => by rw [World.cell?_of_block (w := w) (a := ⟨b, o, none⟩) (hblk b hb)]; exact hc, fun b v hb _ hpn o => by rw [World.frozen?_of_block (w := w) (a := ⟨b, o, none⟩) (hblk b hb)]; exact hpn o⟩
theorem Tab.ownsP (h : Tab n0 S w tb L M vP vR vB ps rs cs) : w.ownsRow n0 24 1 vP L.length ps := by obtain ⟨_, _, _, _, _, h6, _⟩ := h; exact h6
theorem Tab.ownsR (h : Tab n0 S w tb L M vP vR vB ps rs cs) : w.ownsRow n0 56 1 vR M.length rs := by obtain ⟨_, _, _, _, _, _, h7, _⟩ := h; exact h7
theorem Tab.cellP (h : Tab n0 S w tb L M vP vR vB ps rs cs) : w.cell? ⟨tb, 0, none⟩ = some vP := by obtain ⟨_, _, h3, _⟩ := h; exact h3
theorem Tab.cellR (h : Tab n0 S w tb L M vP vR vB ps rs cs) : w.cell? ⟨tb, 1, none⟩ = some vR := by obtain ⟨_, _, _, h4, _⟩ := h; exact h4
theorem Tab.low (h : Tab n0 S w tb L M vP vR vB ps rs cs) : n0 ≤ tb := h.1
theorem owns_base {base size n : Nat} {e : TypeId} {v : Value} {xs : List Value} (h : w.ownsRow base e size v n xs) : ∀ k, v.ownBlock = some k → base ≤ k := fun k hk => (h.lt k hk).1
end

/-- Behind a step: the table's ropes have the bytes L. -/
def Grew (n0 : Nat) (w : World) (tb : Nat) (L : List (List Int)) (cs : List Value) (w' : World) : Prop :=
  Below n0 w w' ∧ n0 ≤ w'.heap.size ∧ ∃ S vP vR vB ps rs, Tab n0 S w' tb L L vP vR vB ps rs cs

set_option maxHeartbeats 1000000 in
theorem add_no (tb : Nat) (f : Int) (w : World) (hf : (f != 0) = true) :
    Calls Try.prog 64 #[.pointer (some ⟨tb, 0, none⟩), .pointer none, .int .i64 f, .pointer none, .int .i64 f] w fun e w' => e = .returned (.bool true) ∧ w' = w := by
  go_enter Try.func64, Try.ntmps64
  go_wp2
  go_ret
  exact ⟨rfl, rfl⟩

set_option maxRecDepth 100000 in
set_option maxHeartbeats 4000000 in
theorem add_yes {n0 tb : Nat} {S : Nat → Prop} {w : World} {L : List (List Int)} {vP vR vB : Value} {ps rs cs : List Value} (h : Tab n0 S w tb L L vP vR vB ps rs cs) (hn0 : n0 ≤ w.heap.size) (hL : L.length ≤ 1000) (b d : Nat) (xs : List Int)
    (hp : RopeAt S w (.pointer (some ⟨b, 0, none⟩)) xs) (hr : RefAt S w (.pointer (some ⟨d, 0, none⟩)) xs) :
    Calls Try.prog 64 #[.pointer (some ⟨tb, 0, none⟩), .pointer (some ⟨b, 0, none⟩), .int .i64 0, .pointer (some ⟨d, 0, none⟩), .int .i64 0] w fun e w' => e = .returned (.bool true) ∧ Grew n0 w tb (L ++ [xs]) cs w' := by
  have HT := hide1 h
  have HP := hide1 hp
  have HR := hide1 hr
  have HN := hide1 hn0
  have c0 := h.cellP
  obtain ⟨aP, cP, rfl⟩ := owns_form h.ownsP
  obtain ⟨aR, cR, rfl⟩ := owns_form h.ownsR
  clear h hp hr hn0
  go_enter Try.func64, Try.ntmps64
  go_wp2_with (first
    | (at_builtin; have _g := HT3.out; clear _g; go_must (refine wpl_add_prrope rfl _ _ rfl (w2.setCell ⟨tb, 0, none⟩ (.slice (some ⟨g1, 0, none⟩) (L.length + 1) c1)) _ ((Kept.refl (w2.setCell ⟨tb, 0, none⟩ (.slice (some ⟨g1, 0, none⟩) (L.length + 1) c1))).alloc _ _) n0 (.slice aR L.length cR) L.length rs (by rfl) HT3.out.ownsR (some ⟨d, 0, none⟩) w2.heap.size (by rfl) (lit_two _ _ _ _ _) hL HN3.out ?_; intro g2 c2 w5 ho2 hg2 hgg2; obtain ⟨d5, z5⟩ := HT3.out.stillR ((Kept.refl (w2.setCell ⟨tb, 0, none⟩ (.slice (some ⟨g1, 0, none⟩) (L.length + 1) c1))).alloc _ _) hg2; have HT6 := hide1 (HT3.out.addR HR3.out ((Kept.refl (w2.setCell ⟨tb, 0, none⟩ (.slice (some ⟨g1, 0, none⟩) (L.length + 1) c1))).alloc _ _) hg2 ho2 rfl hgg2); have HB6 := hide1 (grow_low ((Kept.refl (w2.setCell ⟨tb, 0, none⟩ (.slice (some ⟨g1, 0, none⟩) (L.length + 1) c1))).alloc _ _) hg2 HN3.out (owns_base HT3.out.ownsR) HT3.out.low 1 (.slice (some ⟨g2, 0, none⟩) (L.length + 1) c2)); clear hg2 ho2 hgg2))
    | (at_builtin; go_must (refine wpl_add_prope rfl _ _ rfl w _ ((Kept.refl w).alloc _ _) n0 (.slice aP L.length cP) L.length ps (by rfl) HT.out.ownsP (some ⟨b, 0, none⟩) _ (by rfl) (lit_one _ _ _) hL HN.out ?_; intro g1 c1 w2 ho1 hg1 hgg1; obtain ⟨d2, z2⟩ := HT.out.stillP ((Kept.refl w).alloc _ _) hg1; have HT3 := hide1 (HT.out.addP HP.out ((Kept.refl w).alloc _ _) hg1 ho1 rfl hgg1); have HB3 := hide1 (grow_low ((Kept.refl w).alloc _ _) hg1 HN.out (owns_base HT.out.ownsP) HT.out.low 0 (.slice (some ⟨g1, 0, none⟩) (L.length + 1) c1)); have HN3 : Hid (n0 ≤ ((w2.setCell ⟨tb, 0, none⟩ (.slice (some ⟨g1, 0, none⟩) (L.length + 1) c1))).heap.size) := Nat.le_trans HN.out HB3.out.size; have e1 := HT3.out.cellR; have HR3 : Hid (RefAt (fun x => S x ∧ x < w.heap.size) (w2.setCell ⟨tb, 0, none⟩ (.slice (some ⟨g1, 0, none⟩) (L.length + 1) c1)) (.pointer (some ⟨d, 0, none⟩)) xs) := HR.out.tight.mono (add_same HT.out ((Kept.refl w).alloc _ _) hg1 _) (fun _ h => h); clear hg1 ho1 hgg1)))
  go_ret
  exact ⟨rfl, HB3.out.trans HB6.out, Nat.le_trans HN3.out HB6.out.size, _, _, _, _, _, _, HT6.out⟩

end Rope
end Go.Proofs.Ythjagnnbhpfpoaa
