import Derived.Test.YthjagnnbhpfpoaaRopeChunk
namespace Go.Proofs.Ythjagnnbhpfpoaa
open Go.RowKit
attribute [local go_sem] Oper.semAt_some
namespace Rope

/-- What Chunks hands over: a place, and a piece in memory of its own. -/
structure Item where
  place : Nat
  bytes : List Int
  blk : Nat
  cap : Nat
def Item.encs (x : Item) : Array Value := #[.int .i64 x.place, .slice (some ⟨x.blk, 0, none⟩) x.bytes.length x.cap]
def got (l : List Item) : List Int := l.flatMap Item.bytes
theorem got_snoc (l : List Item) (x : Item) : got (l ++ [x]) = got l ++ x.bytes := by simp [got]
theorem got_nil : got [] = [] := rfl

def Hands (lo f : Nat) (xs : List Int) (pre : List Item) (x : Item) (W : World) : Prop :=
  x.place = f + (got pre).length ∧ x.bytes ≠ [] ∧ (∃ rest, xs.drop f = got pre ++ x.bytes ++ rest) ∧ Own W lo (.slice (some ⟨x.blk, 0, none⟩) x.bytes.length x.cap) x.bytes ∧ lo ≤ x.blk

theorem Hands.put {lo f : Nat} {xs : List Int} {pre : List Item} {x : Item} {W : World} {l : Nat} {o : Obj} (o' : Obj) (hl : W.heap[l]? = some o) (ho : o.isCells = false) (h : Hands lo f xs pre x W) : Hands lo f xs pre x (W.putObj l o') := by
  obtain ⟨h1, h2, h3, h4, h5⟩ := h
  refine ⟨h1, h2, h3, ⟨h4.1, ?_⟩, h5⟩
  rcases h4.2 with h4 | ⟨g, cap, cur, h6, h7, h8, h9⟩
  · exact .inl h4
  · refine .inr ⟨g, cap, cur, h6, h7, ?_, h9⟩
    rw [World.putObj_heap_other (fun e => ?_)]
    · exact h8
    · rw [e, hl] at h8; cases h8; cases ho

theorem ReaderAt.kept {S : Nat → Prop} {W W' : World} {D i : Nat} {pc rs : List Int} (h : ReaderAt S W D i pc rs) (hk : Kept W W') : ReaderAt S W' D i pc rs :=
  h.keeps (X := fun _ => False) ⟨hk.size, fun k o hk' _ _ => by rw [hk.below.block k (Array.getElem?_eq_some_iff.1 hk').1]; exact hk'⟩ (fun _ _ h => h) (fun h => h)

/-- How many bytes a reader in block D has ahead of it. -/
def ahead (n D : Nat) (w : World) : Nat := match w.cell? ⟨D, 0, none⟩ with | some (.int _ i) => (n - i).toNat | _ => 0

theorem ahead_of {S : Nat → Prop} {w : World} {n D i : Nat} {pc rs : List Int} (h : ReaderAt S w D i pc rs) : ahead n D w = n - i := by
  obtain ⟨_, _, _, _, d0, _⟩ := h
  unfold ahead
  rw [d0]
  simp only
  omega

theorem low_but {β : Type} {D : Nat} {J : β → World → Prop} (h : Low D J) {s : β} {A A' : World} (hj : J s A) (hk : KeptBut D A A') (hD : D < A.heap.size) : J s A' :=
  h s A A' hj ⟨hk.1, hk.2.1, hk.2.2.1, hk.2.2.2.1, fun k hlt => hk.2.2.2.2 k (by omega) (by omega)⟩
theorem low_kept {β : Type} {D : Nat} {J : β → World → Prop} (h : Low D J) {s : β} {A A' : World} (hj : J s A) (hk : Kept A A') (hD : D ≤ A.heap.size) : J s A' :=
  h s A A' hj (hk.below.mono hD)

set_option maxRecDepth 100000 in
set_option maxHeartbeats 4000000 in
theorem chunks1_seq (X S0 : Nat → Prop) (n br bf f : Nat) (rv : Option Addr) (xs : List Int) (w : World) (hr : RopeAt S0 w (.pointer rv) xs) (cr : w.cell? ⟨br, 0, none⟩ = some (.pointer rv)) (cf : w.cell? ⟨bf, 0, none⟩ = some (.int .i64 f)) (hf : f ≤ xs.length)
    (hX : ∀ b, X b → b < w.heap.size ∧ ¬ S0 b) :
    SeqB Fence.wide n Try.prog 49 #[.pointer (some ⟨br, 0, none⟩), .pointer (some ⟨bf, 0, none⟩)] Item.encs (Hands w.heap.size f xs) (Keeps X) (fun ys => got ys = xs.drop f) (fun _ => True) w := by
  intro l J Jx W hb hJ hJx hY h0
  have hlen := hr.len
  obtain ⟨D, hD⟩ : ∃ D, W.heap.size = D := ⟨_, rfl⟩
  obtain ⟨S, hSdef⟩ : ∃ S : Nat → Prop, S = fun b => (S0 b ∧ b < w.heap.size) ∨ D < b := ⟨_, rfl⟩
  have hwD : w.heap.size ≤ D := by rw [← hD]; exact hb.size
  have hSD : ¬ S D := by rw [hSdef]; rintro (h | h) <;> omega
  have hSX : ∀ b, S b → ¬ X b := by
    rw [hSdef]
    rintro b (⟨h1, h2⟩ | h) hx
    · exact (hX b hx).2 h1
    · have := (hX b hx).1; omega
  have hXD : ¬ X D := fun hx => by have := (hX D hx).1; omega
  have hkW : Kept w W := Kept.of hb
  have hrW : RopeAt S W (.pointer rv) xs := (hr.tight.kept hkW).mono (Same.refl _ _) (fun b h => by rw [hSdef]; exact Or.inl h)
  have hSo : ∀ c, D < c → S c := fun c h => by rw [hSdef]; exact Or.inr h
  have crW := grown_cell hkW cr
  have cfW := grown_cell hkW cf
  have HR : Hid (Calls Try.prog 40 #[.pointer rv, .int .i64 f] W fun e w' => e = .returned (.pointer (some ⟨D, 0, none⟩)) ∧ Kept W w' ∧ ∃ pc rs, ReaderAt S w' D f pc rs ∧ pc ++ rs = xs.drop f) := by
    have := reader_rope S (.pointer rv) f xs W hrW (by rw [hD]; exact hSo) (by rw [hD]; exact hSD) hf
    rw [hD] at this; exact this
  rw [hD] at hJ hJx
  have HD := hide1 hD
  have HJ := hide1 hJ
  have HJX := hide1 hJx
  have HSX := hide1 hSX
  have HSO := hide1 hSo
  have HY := hide1 hY
  have H0 := hide1 h0
  clear hSdef hr cr cf hb hD hJ hJx hSX hSo hrW hY h0 hX
  refine callsIn_of_wp Try.func49 rfl trivial ?_ rfl
  simp only [Try.ntmps49, List.size_toArray, List.length_cons, List.length_nil, Nat.reduceAdd, Nat.reduceSub, Array.replicate_succ, Array.replicate_zero, List.push_toArray, List.append_toArray, List.nil_append, List.cons_append]
  gi_wp2_with fail
  refine ⟨trivial, fun h => (by cases h), ?_⟩
  refine (callsIn_wide.2 HR.out).mono ?_
  rintro e W0 ⟨rfl, hk0, pc0, rs0, hR0, hall0⟩
  have hDW : D < W0.heap.size := by obtain ⟨_, _, _, _, d0, _⟩ := hR0; exact World.block_lt_of_cell? W0 ⟨D, 0, none⟩ d0
  have hj0 : J [] W0 := low_kept HJ.out H0.out hk0 (by rw [HD.out]; exact Nat.le_refl _)
  have HJ0 := hide1 hj0
  have HR0 := hide1 hR0
  have HA0 := hide1 hall0
  clear hj0 hR0 hall0 HR H0 hk0
  gi_wp2_with fail
  gi_loopw [5] (fun _ wr => ∃ pre pc rs, J pre wr ∧ ReaderAt S wr D (f + (got pre).length) pc rs ∧ xs.drop f = got pre ++ (pc ++ rs) ∧ D < wr.heap.size) (fun _ wr => ahead xs.length D wr)
  case atStart => exact ⟨[], pc0, rs0, HJ0.out, HR0.out, HA0.out.symm, hDW⟩
  case round =>
    obtain ⟨pre, pc, rs, hj, hR, hall, hlt⟩ := hrel
    have HJ1 := hide1 hj
    have HR1 := hide1 hR
    have HA1 := hide1 hall
    clear hj hR hall HJ0 HR0 HA0 hDW
    gi_wp2_with fail
    refine ⟨trivial, fun h => (by cases h), ?_⟩
    refine (callsIn_wide.2 (more_any S D _ pc rs wr (fun c hc => HSO.out c (by omega)) HR1.out)).mono ?_
    rintro e W1 ⟨rfl, hk1, pc1, rs1, hR1, hne1, hall1⟩
    have hj1 : J pre W1 := low_but HJ.out HJ1.out hk1 hlt
    have hD1 : D < W1.heap.size := Nat.lt_of_lt_of_le hlt hk1.size
    by_cases hend : pc ++ rs = []
    · have HFIN : Hid (got pre = xs.drop f) := by have := HA1.out; rw [hend, List.append_nil] at this; exact this.symm
      have hemp : (!(pc ++ rs).isEmpty) = false := by rw [hend]; rfl
      have HJ2 := hide1 hj1
      clear hj1 hne1 hall1 hR1 hk1 hend
      rw [hemp]
      gi_wp2
      go_end0
      exact ⟨⟨_, rfl⟩, .inl ⟨pre, HFIN.out, HJ2.out⟩⟩
    · have hemp : (!(pc ++ rs).isEmpty) = true := by cases h : pc ++ rs with | nil => exact absurd h hend | cons => rfl
      rw [hemp]
      have hne2 := hne1 hend
      have hR1' := hR1
      obtain ⟨_, _, v1, u1, d0, d1, d2, hv1, ht1⟩ := hR1'
      obtain ⟨va, vcap, rfl⟩ := hv1.form
      have hpos : 0 < pc1.length := List.length_pos_iff.2 hne2
      have hlen2 : (got pre).length + (pc1 ++ rs1).length = (xs.drop f).length := by rw [HA1.out, ← hall1]; simp
      have hlen3 : f + (got pre).length + pc1.length + rs1.length ≤ xs.length := by
        simp only [List.length_append, List.length_drop] at hlen2; omega
      have HJ2 := hide1 hj1
      have HR2 := hide1 hR1
      have HA2 := hide1 hall1
      clear hj1 hne1 hall1 hR1 hv1 ht1 hend hlen2
      gi_wp2_with fail
      refine ⟨trivial, fun h => (by cases h), ?_⟩
      refine (callsIn_wide.2 (take_any S D _ pc1.length pc1 rs1 W1 HR2.out (Nat.le_refl _) hpos (by omega))).mono ?_
      rintro e W2 ⟨v2, rfl, hk2, hs2, hR2⟩
      rw [List.take_of_length_le (Nat.le_refl _)] at hs2
      rw [List.drop_eq_nil_of_le (Nat.le_refl _)] at hR2
      have hj2 : J pre W2 := low_but HJ.out HJ2.out hk2 hD1
      have hD2 : D < W2.heap.size := Nat.lt_of_lt_of_le hD1 hk2.size
      have HS2 := hide1 hs2
      have HJ3 := hide1 hj2
      have HR3 := hide1 hR2
      clear hs2 hj2 hR2 HJ2 HR2 d0 d1 d2
      gi_wp2_with fail
      refine ⟨trivial, fun h => (by cases h), ?_⟩
      refine (callsIn_wide.2 (clone_any S _ pc1 W2 HS2.out hne2 (by omega))).mono ?_
      rintro e W3 ⟨g3, cap3, rfl, hk3, how3, hg3⟩
      have hj3 : J pre W3 := low_kept HJ.out HJ3.out hk3 (by omega)
      have hD3 : D < W3.heap.size := Nat.lt_of_lt_of_le hD2 hk3.size
      have hR4 : ReaderAt S W3 D (f + (got pre).length + pc1.length) [] rs1 := HR3.out.kept hk3
      have hhand : Hands w.heap.size f xs pre ⟨f + (got pre).length, pc1, g3, cap3⟩ W3 := by
        refine ⟨rfl, hne2, ⟨rs1, ?_⟩, how3.low (by omega), by show w.heap.size ≤ g3; omega⟩
        show xs.drop f = got pre ++ pc1 ++ rs1
        rw [HA1.out, ← HA2.out, List.append_assoc]
      obtain ⟨fn, tmps, assign, body, hy, hRd⟩ := HY.out pre ⟨f + (got pre).length, pc1, g3, cap3⟩ W3 hj3 hhand
      have HRD := hide1 hRd
      have HR4 := hide1 hR4
      clear hRd hR4 hj3 hhand how3 HJ3 HR3 HS2
      dsimp only [Item.encs] at hy
      simp only [Int.natCast_add] at hy
      gi_wp2_with fail
      refine ⟨fun h => (by cases h), ?_⟩
      refine HRD.out.mono ?_
      rintro e W4 (⟨rfl, hj4, hk4⟩ | ⟨rfl, hj4⟩)
      · have hR5 : ReaderAt S W4 D (f + (got (pre ++ [⟨f + (got pre).length, pc1, g3, cap3⟩])).length) [] rs1 := by
          rw [got_snoc, List.length_append, ← Nat.add_assoc]
          exact HR4.out.keeps hk4 HSX.out hXD
        have hall5 : xs.drop f = got (pre ++ [⟨f + (got pre).length, pc1, g3, cap3⟩]) ++ ([] ++ rs1) := by
          rw [got_snoc, List.nil_append, List.append_assoc]
          show xs.drop f = got pre ++ (pc1 ++ rs1)
          rw [HA1.out, HA2.out]
        have hm : ahead xs.length D W4 < ahead xs.length D wr := by
          rw [ahead_of hR5, ahead_of HR1.out, got_snoc, List.length_append]
          show _ - (f + ((got pre).length + pc1.length)) < _
          omega
        have H5 := hide1 (And.intro hR5 (And.intro hall5 hm))
        clear hR5 hall5 hm
        gi_wp2
        exact ⟨⟨_, [], rs1, hj4, H5.out.1, H5.out.2.1, Nat.lt_of_lt_of_le hD3 hk4.1⟩, H5.out.2.2⟩
      · gi_wp2
        exact bodyPost_ret (v := .tuple #[]) (by simp [results, Try.results49, go_sem]) rfl ⟨⟨_, rfl⟩, .inr ⟨_, trivial, hj4⟩⟩

set_option maxRecDepth 100000 in
set_option maxHeartbeats 4000000 in
theorem Chunks_out (S : Nat → Prop) (rv : Option Addr) (xs : List Int) (f : Int) (w : World) (h : RopeAt S w (.pointer rv) xs) (hf : ¬ (0 ≤ f ∧ f ≤ xs.length)) :
    Calls Try.prog 30 #[.pointer rv, .int .i64 f] w fun e w' => e = .returned (.tuple #[.nilFunc, .int .i64 3]) ∧ Kept w w' := by
  have HE := hide1 h
  have hl := h.len
  clear h
  go_enter Try.func30, Try.ntmps30
  go_wp2_with fail
  have hk1 : Kept w ((w.alloc (.cells #[.pointer rv] 24)).alloc (.cells #[.int .i64 f] 3)) := ((Kept.refl w).alloc _ _).alloc _ _
  have c1 : ((w.alloc (.cells #[.pointer rv] 24)).alloc (.cells #[.int .i64 f] 3)).cell? ⟨w.heap.size, 0, none⟩ = some (.pointer rv) := by simp
  have c2 : ((w.alloc (.cells #[.pointer rv] 24)).alloc (.cells #[.int .i64 f] 3)).cell? ⟨w.heap.size + 1, 0, none⟩ = some (.int .i64 f) := by simp
  generalize (w.alloc (.cells #[.pointer rv] 24)).alloc (.cells #[.int .i64 f] 3) = W at hk1 c1 c2 ⊢
  have k1 := keeps c1
  have k2 := keeps c2
  go_region_held3 (fun w' => Kept W w') (first | assumption | exact Kept.refl _ | exact gtrans (by assumption) (by assumption))
    ((first | (go_at_call 16; refine (len_any S _ xs _ (HE.out.kept (gtrans hk1 (by assumption)))).mono ?_; rintro e w6 ⟨rfl, hk6⟩) | (go_at_call 35; refine (spans_no S _ xs f xs.length _ (HE.out.kept (gtrans hk1 (by assumption))) (by omega)).mono ?_; rintro e w7 ⟨rfl, hk7⟩)))
  all_goals
    have hk8 : Kept W w7 := by assumption
    go_wp2
    go_ret2
    exact ⟨rfl, gtrans hk1 hk8⟩

set_option maxRecDepth 100000 in
set_option maxHeartbeats 4000000 in
theorem Chunks_in (S : Nat → Prop) (rv : Option Addr) (xs : List Int) (f : Nat) (w : World) (h : RopeAt S w (.pointer rv) xs) (hf : f ≤ xs.length) :
    Calls Try.prog 30 #[.pointer rv, .int .i64 f] w fun e w' => e = .returned (.tuple #[.func (.func 49) #[] #[.pointer (some ⟨w.heap.size, 0, none⟩), .pointer (some ⟨w.heap.size + 1, 0, none⟩)], .int .i64 0]) ∧ Kept w w' ∧
      w'.cell? ⟨w.heap.size, 0, none⟩ = some (.pointer rv) ∧ w'.cell? ⟨w.heap.size + 1, 0, none⟩ = some (.int .i64 f) := by
  have HE := hide1 h
  have hl := h.len
  clear h
  go_enter Try.func30, Try.ntmps30
  go_wp2_with fail
  have hk1 : Kept w ((w.alloc (.cells #[.pointer rv] 24)).alloc (.cells #[.int .i64 f] 3)) := ((Kept.refl w).alloc _ _).alloc _ _
  have c1 : ((w.alloc (.cells #[.pointer rv] 24)).alloc (.cells #[.int .i64 f] 3)).cell? ⟨w.heap.size, 0, none⟩ = some (.pointer rv) := by simp
  have c2 : ((w.alloc (.cells #[.pointer rv] 24)).alloc (.cells #[.int .i64 f] 3)).cell? ⟨w.heap.size + 1, 0, none⟩ = some (.int .i64 f) := by simp
  generalize (w.alloc (.cells #[.pointer rv] 24)).alloc (.cells #[.int .i64 f] 3) = W at hk1 c1 c2 ⊢
  have k1 := keeps c1
  have k2 := keeps c2
  go_region_held3 (fun w' => Kept W w') (first | assumption | exact Kept.refl _ | exact gtrans (by assumption) (by assumption))
    ((first | (go_at_call 16; refine (len_any S _ xs _ (HE.out.kept (gtrans hk1 (by assumption)))).mono ?_; rintro e w6 ⟨rfl, hk6⟩) | (go_at_call 35; refine (spans_yes S _ xs f xs.length _ (HE.out.kept (gtrans hk1 (by assumption))) (by omega) (by omega) (by omega)).mono ?_; rintro e w7 ⟨rfl, hk7⟩)))
  all_goals
    have hk8 : Kept W w7 := by assumption
    go_wp2
    go_ret2
    exact ⟨rfl, gtrans hk1 hk8, k1 _ hk8, k2 _ hk8⟩

end Rope
end Go.Proofs.Ythjagnnbhpfpoaa
