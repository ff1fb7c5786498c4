import Derived.Test.YtajmbplipjeojaaDoorShLo0
namespace Go.Proofs.YtajmbplipjeojaaDoor
open Go.RowKit
set_option linter.unusedVariables false
namespace Ex
namespace Sh

theorem owns_base {w : World} {b1 b2 sz n : Nat} {T : TypeId} {v : Value} {xs : List Value} (h : w.ownsRow b1 T sz v n xs) (hb : b2 ≤ b1) : w.ownsRow b2 T sz v n xs := by
  refine ⟨h.1, ?_⟩
  rcases h.2 with h10 | ⟨g, cap, cur, q1, q2, q3⟩
  · exact Or.inl h10
  · exact Or.inr ⟨g, cap, cur, q1, Nat.le_trans hb q2, q3⟩
section
variable {α : Type} {E : ElK α}
theorem lo_run2 {w : World} {base : Nat} {v : Value} {l : List α} (hby : E.by_ ≤ 4096) (hown : LO E w base v l) (ty : TypeId) {lb : Nat} {q : α} (hbx : w.heap[lb]? = some (.cells (E.enc q).toArray E.T (0, 0))) (m : Nat) (hm : l.length = m) (hl : m + 1 ≤ 2000000000) (hbase : base ≤ w.heap.size) :
    ∃ g cap w', (Builtin.append_ #[E.TT, E.TT] ty #[v, .slice (some ⟨lb, 0, none⟩) 1 1]).run Tryd.prog w = .ok (.slice (some ⟨g, 0, none⟩) (m + 1) cap) w' ∧ LO E w' base (.slice (some ⟨g, 0, none⟩) (m + 1) cap) (l ++ [q]) ∧ App2 w w' v m g cap ∧ g < w'.heap.size := by
  have hlb : (m + 1) * E.by_ ≤ 140737488355328 := Nat.le_trans (Nat.mul_le_mul hl hby) (by decide)
  subst hm
  have hnews : ∀ j u, (E.enc q)[j]? = some u → w.cell? ((⟨lb, 0, none⟩ : Addr).add j) = some u := fun j u hj => by
    rw [Addr.add_lit, Nat.zero_add]
    simp only [World.cell?, hbx]
    simpa using hj
  obtain ⟨i0, hi, hz0, hz1, hz2⟩ := info_parts E.info
  rcases hown.2 with ⟨h0, h1⟩ | ⟨g, cap, cur, he, hb, hg, hc, hmx, hcs, htk⟩
  · subst h0
    obtain ⟨g, cap, w', h2, h3, h4, h5, h6⟩ := lo_run hown ty hbx hlb (by unfold maxLen; omega) hbase
    refine ⟨g, cap, w', h2, h3, Or.inr ⟨?_, ⟨h4.os, h4.tape, h4.output, h4.size, fun k hk => h4.block k hk (by intro e; cases e)⟩⟩, h6⟩
    rcases h5 with e | e
    · cases e
    · omega
  · subst he
    by_cases hr : l.length + 1 ≤ cap
    · obtain ⟨w', h2, h3, h4⟩ := run_append_fits (P := Tryd.prog) w base E.TT ty E.T i0 E.sz E.und hi hz1 g l.length cap (flatE E l) hown ⟨lb, 0, none⟩ 1 1 (E.enc q) (by rw [E.len, Nat.one_mul]) hnews (E.one q) hr
      have h5 : LO E w' base (.slice (some ⟨g, 0, none⟩) (l.length + 1) cap) (l ++ [q]) := by
        unfold LO
        rw [flatE_app, List.length_append]
        exact h3
      exact ⟨g, cap, w', h2, h5, Or.inl ⟨rfl, h4⟩, (h5.lt' g rfl).2⟩
    · obtain ⟨v', w', h2, h3, h4⟩ := run_append_arg_grows (P := Tryd.prog) w E.TT ty E.T i0 _ E.sz E.by_ E.und hi hz0 hz1 hz2 E.zs E.pos ⟨g, 0, none⟩ l.length cap (flatE E l) hown.1 (fun j u hj => by
        rw [Addr.add_lit]
        exact row_cells hg htk j u hj) ⟨lb, 0, none⟩ 1 1 (E.enc q) (by rw [E.len, Nat.one_mul]) hnews (by omega) (by unfold maxLen; omega) hlb
      obtain ⟨g', cap', rfl, hge, hlt⟩ := h3.form (by omega)
      have h5 : LO E w' base (.slice (some ⟨g', 0, none⟩) (l.length + 1) cap') (l ++ [q]) := by
        unfold LO
        rw [flatE_app, List.length_append]
        exact owns_base h3 hbase
      exact ⟨g', cap', w', h2, h5, Or.inr ⟨hge, ⟨h4.os, h4.tape, h4.output, h4.size, fun k hk => h4.block k hk (by simp)⟩⟩, hlt⟩
theorem step_lo2 {w : World} {ops : Array Oper} {o : Oper} {a : Act} {Q : Exit → Act → World → Prop} {K : Act → World → Prop} {EE : Prop} (hby : E.by_ ≤ 4096) (hgd : o.guard = none) (s x : Operand) (ho : o.op = .call { callee := .builtin .append, args := #[s, x], argTypes := #[E.TT, E.TT] }) (base : Nat) (v : Value) (l : List α) (m : Nat) (hm : l.length = m) (hs : a.eval s = v) (hown : LO E w base v l) (lb : Nat) (q : α) (hx : a.eval x = .slice (some ⟨lb, 0, none⟩) 1 1) (hbx : w.heap[lb]? = some (.cells (E.enc q).toArray E.T (0, 0))) (hl : m + 1 ≤ 2000000000) (hbase : base ≤ w.heap.size)
    (h : ∀ g cap w', LO E w' base (.slice (some ⟨g, 0, none⟩) (m + 1) cap) (l ++ [q]) → App2 w w' v m g cap → g < w'.heap.size → K (a.put o.dst (.slice (some ⟨g, 0, none⟩) (m + 1) cap)) w') :
    if Region.wanted o (yielded ops a.tmps) = true then Oper.wp Tryd.prog o a w K Q else EE := by
  have hw : Region.wanted o (yielded ops a.tmps) = true := by simp [Region.wanted, hgd]
  rw [if_pos hw]
  obtain ⟨g, cap, w', hr, h2, h3, h4⟩ := lo_run2 hby hown o.type hbx m hm hl hbase
  unfold Oper.wp
  simp [execOp, ho, resolve, invoke, builtin, hs, hx, hr, Result.andThen]
  exact h g cap w' h2 h3 h4
end
/-- What is read of lists that are grown. -/
theorem gr_rows {α : Type} {E : ElK α} {L : ElK SlV} {mrk ap : Nat → Nat → α} {vs xs : List SlV} {w0 w : World} {aM : Option Addr} {u cM : Nat} {C D : Nat → List α} (h : Gr2 E L mrk ap vs w0 w (.slice aM u cM) xs C D) (hx : xs.length = u) (hv : vs.length = u) (hs : L.sz = 1) (he : L.enc = encSl) (v : Nat) (hvu : v < u) :
    ∃ (y x : SlV) (gM : Nat), vs[v]? = some y ∧ x.2.1 = y.2.1 + 71 ∧ y.2.1 ≤ y.2.2 ∧ x.2.1 ≤ x.2.2 ∧ aM = some ⟨gM, 0, none⟩ ∧ w.cell? ⟨gM, v, none⟩ = some (.slice x.1 x.2.1 x.2.2) ∧ (∀ s, s < y.2.1 → ∃ g g2, y.1 = some ⟨g, 0, none⟩ ∧ x.1 = some ⟨g2, 0, none⟩ ∧ ∀ j q, (E.enc (mrk v s))[j]? = some q → w.cell? ⟨g, s * E.sz + j, none⟩ = some q ∧ w.cell? ⟨g2, s * E.sz + j, none⟩ = some q) ∧ ∀ s, s < 71 → ∃ g2, x.1 = some ⟨g2, 0, none⟩ ∧ ∀ j q, (E.enc (ap v s))[j]? = some q → w.cell? ⟨g2, (y.2.1 + s) * E.sz + j, none⟩ = some q := by
  obtain ⟨y, hy⟩ : ∃ q, vs[v]? = some q := ⟨_, List.getElem?_eq_getElem (by omega)⟩
  obtain ⟨x, hx2⟩ : ∃ q, xs[v]? = some q := ⟨_, List.getElem?_eq_getElem (by omega)⟩
  obtain ⟨r1, r2, r3⟩ := gr_read3 h hy hx2
  obtain ⟨gM, e, hc⟩ := lo_sl h.gl hs he hx2
  have c1 := LO.cap (h.bag v y hy)
  have c2 := LO.cap (h.bag2 v x hx2)
  rw [lo_lens (h.bag v y hy)] at c1
  rw [lo_lens (h.bag2 v x hx2)] at c2
  exact ⟨y, x, gM, hy, r1, c1, c2, e, hc, r2, r3⟩
def kS (t : Nat) : ByteArray := ⟨#[107, 101, 112, 116, 32]⟩ ++ mkS t
def moS (t : Nat) : ByteArray := ⟨#[109, 111, 114, 101, 32]⟩ ++ mkS t
def mrkS (t k : Nat) : ByteArray := kS t
def apS (t k : Nat) : ByteArray := moS t

end Sh
end Ex
end Go.Proofs.YtajmbplipjeojaaDoor
