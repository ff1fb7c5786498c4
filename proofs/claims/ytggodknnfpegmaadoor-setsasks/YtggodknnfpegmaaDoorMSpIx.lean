import Derived.Test.YtggodknnfpegmaaDoorMSpSet
import Derived.Test.YtggodknnfpegmaaDoorMSpMk
import Derived.Deep.RegionHeld3
import Derived.ChangeKeysEq
import Derived.Shelf.Abstract
namespace Go.Proofs.YtggodknnfpegmaaDoor
open Go.RowKit
attribute [local go_sem] Oper.semAt_some
namespace Ex

/-- What IndexFunc answers: -1, or a place at which the test holds. -/
def IxIs {α : Type} (P : α → Bool) (row : List α) (r : Int) : Prop := (r = -1 ∧ row.any P = false) ∨ (0 ≤ r ∧ r < 17592186044416 ∧ row.any P = true)
def IxR {α : Type} (P : α → Bool) (row : List α) (w : World) (vi : Value) (wr : World) : Prop := ∃ j : Nat, vi = .int .i64 (j : Int) ∧ j ≤ row.length ∧ Hid ((row.take j).any P = false) ∧ Hid (Kept w wr)
set_option linter.unusedSimpArgs false in
set_option maxRecDepth 100000 in
set_option maxHeartbeats 4000000 in
theorem indexSym_is (f : Nat) (bs : Array Value) (P : SymM → Bool) (ar : Option Addr) (nr cr : Nat) (row : List SymM) (hrow : row.length = nr) (w : World) (hr : RightAt w (.slice ar nr cr) row)
    (hf : ∀ x ∈ row, ∀ wr, Kept w wr → Calls Tryd.prog f (#[.agg #[.int .i64 x.1, .int .i64 x.2]] ++ bs) wr fun e w' => e = .returned (.bool (P x)) ∧ Kept wr w')
    (ef : ∀ args w, (callFunc f args).run Tryd.prog w = .ok (.enter f args) w) :
    Calls Tryd.prog 96 #[.slice ar nr cr, .func (.func f) #[] bs] w fun e w' => ∃ r : Int, e = .returned (.int .i64 r) ∧ IxIs P row r ∧ Kept w w' := by
  have HR := hide1 hr
  have HROW := hide1 hrow
  have HF := hide1 hf
  obtain ⟨_, _, e1, hc, hn⟩ := hr.len
  simp only [Value.slice.injEq] at e1
  obtain ⟨rfl, en, rfl⟩ := e1
  clear en
  rw [hrow] at hc hn
  have gn : (nr : Int) ≤ 17592186044416 := by omega
  clear hr hrow hf
  go_enter Tryd.func96, Tryd.ntmps96
  go_wp2_with fail
  go_loopw [8] (IxR P row w) (fun i _ => nr - (intOf i).toNat)
  case atStart => exact ⟨0, rfl, Nat.zero_le _, rfl, Kept.refl w⟩
  case round =>
    obtain ⟨j, rfl, hj, HA, HKr⟩ := hrel
    rw [HROW.out] at hj
    by_cases hlt : (j : Int) < (nr : Int)
    · obtain ⟨x, hx⟩ : ∃ x, row[j]? = some x := ⟨_, List.getElem?_eq_getElem (by have := HROW.out; omega)⟩
      obtain ⟨cb, ob, cs, ea, hcb, hlen, hcell, hcs⟩ := SliceOf.el (HR.out.keep HKr.out) hx
      have hcs : cs = [.int .i64 x.1, .int .i64 x.2] := hcs
      subst ea hcs
      have k0 := hcell 0 _ rfl
      have k1 := hcell 1 _ rfl
      have k0 : wr.cell? ⟨cb, ob + j * 2, none⟩ = some (.int .i64 x.1) := k0
      have HX := hide1 hx
      have HC := hide1 (HF.out x (List.mem_of_getElem? hx) wr HKr.out)
      have gjc : (j : Int) < (cr : Int) := by omega
      obtain ⟨kd, nn⟩ := x
      have hef := ef
      clear hx hcell
      have HA2 : Hid (∀ b, P (kd, nn) = b → (row.take (j + 1)).any P = b) := by
        intro b hb
        rw [List.take_add_one, HX.out, List.any_append, HA.out]
        simpa using hb
      cases hp : P (kd, nn) with
      | true =>
        rw [hp] at HC
        have HB := hide1 (HA2.out true hp)
        clear hp HA2
        go_wp2_with fail
        refine HC.out.mono ?_
        rintro e w6 ⟨rfl, hk6⟩
        have HK6 := hide1 (gtrans HKr.out hk6)
        clear hk6
        go_wp2_with fail
        go_ret
        refine ⟨(j : Int), rfl, .inr ⟨by omega, by omega, ?_⟩, HK6.out⟩
        rw [← List.take_append_drop (j + 1) row, List.any_append, HB.out]
        rfl
      | false =>
        rw [hp] at HC
        have HB := hide1 (HA2.out false hp)
        clear hp HA2
        go_wp2_with fail
        refine HC.out.mono ?_
        rintro e w6 ⟨rfl, hk6⟩
        have HK6 := hide1 (gtrans HKr.out hk6)
        clear hk6
        go_wp2_with fail
        go_roundw
        case rel => exact ⟨j + 1, by go_num, by rw [HROW.out]; omega, HB, HK6⟩
        case measure => simp [intOf]; omega
    · go_wp2_with fail
      go_ret
      refine ⟨-1, rfl, .inl ⟨rfl, ?_⟩, HKr.out⟩
      rw [← HA.out, List.take_of_length_le (by have := HROW.out; omega)]
set_option linter.unusedSimpArgs false in
set_option maxRecDepth 100000 in
set_option maxHeartbeats 4000000 in
theorem containsSym_is (f : Nat) (bs : Array Value) (P : SymM → Bool) (ar : Option Addr) (nr cr : Nat) (row : List SymM) (hrow : row.length = nr) (b : Bool) (hb : row.any P = b) (w : World) (hr : RightAt w (.slice ar nr cr) row)
    (hf : ∀ x ∈ row, ∀ wr, Kept w wr → Calls Tryd.prog f (#[.agg #[.int .i64 x.1, .int .i64 x.2]] ++ bs) wr fun e w' => e = .returned (.bool (P x)) ∧ Kept wr w')
    (ef : ∀ args w, (callFunc f args).run Tryd.prog w = .ok (.enter f args) w) :
    Calls Tryd.prog 84 #[.slice ar nr cr, .func (.func f) #[] bs] w fun e w' => e = .returned (.bool b) ∧ Kept w w' := by
  have HI := hide1 (indexSym_is f bs P ar nr cr row hrow w hr hf ef)
  have HB := hide1 hb
  clear hr hf hrow hb
  go_enter Tryd.func84, Tryd.ntmps84
  go_wp2_with (go_at_call 96; refine HI.out.mono ?_; rintro e w6 ⟨r, rfl, hr6, hk6⟩; have HR6 := hide1 hr6; have HK6 := hide1 hk6; clear hr6 hk6)
  go_ret
  refine ⟨?_, HK6.out⟩
  have e : decide (0 ≤ r) = b := by
    rcases HR6.out with ⟨h1, h2⟩ | ⟨h1, _, h2⟩
    · rw [← HB.out, h2, h1]; rfl
    · rw [← HB.out, h2]; simpa using h1
  rw [← e]
  rfl

end Ex
end Go.Proofs.YtggodknnfpegmaaDoor
namespace Go.Proofs.YtggodknnfpegmaaDoor
open Go.RowKit
attribute [local go_sem] Oper.semAt_some
namespace Ex

/-- A box with one value in it. -/
def OneB (w : World) (b : Nat) (v : Value) (t : TypeId) : Prop := w.heap[b]? = some (.cells #[v] t (0, 0))
theorem OneB.cell {w : World} {b : Nat} {v : Value} {t : TypeId} (h : OneB w b v t) : w.cell? ⟨b, 0, none⟩ = some v := by unfold OneB at h; simp [World.cell?, h]
theorem OneB.lt {w : World} {b : Nat} {v : Value} {t : TypeId} (h : OneB w b v t) : b < w.heap.size := (Array.getElem?_eq_some_iff.1 h).1
theorem OneB.keep {w w' : World} {b : Nat} {v : Value} {t : TypeId} (h : OneB w b v t) (hk : Kept w w') : OneB w' b v t := (hk.2.2.2.2 b h.lt).trans h
theorem OneB.but {w w' : World} {b d : Nat} {v : Value} {t : TypeId} (h : OneB w b v t) (hk : KeptBut d w w') (hd : b ≠ d) : OneB w' b v t := (hk.2.2.2.2 b h.lt hd).trans h
theorem OneB.new (w : World) (v : Value) (t : TypeId) : OneB (w.alloc (.cells #[v] t)) w.heap.size v t := heap_alloc_new w _
/-- Is a symbol not (yet) made? -/
def missB (t : Bool) (A : Nat) (x : SymM) : Bool := if x.1 = 3 then !A.testBit x.2.toNat else !t
/-- The names in a row are numbers below 128. -/
def NamesOk (x : SymM) : Prop := x.1 = 3 → 0 ≤ x.2 ∧ x.2 < 128
set_option linter.unusedSimpArgs false in
set_option maxRecDepth 100000 in
set_option maxHeartbeats 4000000 in
theorem missing_is (qd tb d A : Nat) (t : Bool) (x : SymM) (w : World) (hx : NamesOk x) (hq : OneB w qd (.pointer (some ⟨d, 0, none⟩)) 130) (ht : OneB w tb (.bool t) 4) (hA : SetB w d A) :
    Calls Tryd.prog 83 #[.agg #[.int .i64 x.1, .int .i64 x.2], .pointer (some ⟨qd, 0, none⟩), .pointer (some ⟨tb, 0, none⟩)] w fun e w' => e = .returned (.bool (missB t A x)) ∧ Kept w w' := by
  obtain ⟨kd, nn⟩ := x
  have HX := hide1 hx
  have HK1 : Hid (Kept w (w.alloc (.cells #[.int .i64 kd, .int .i64 nn] 68))) := (Kept.refl w).alloc _ _
  have hb : (w.alloc (.cells #[.int .i64 kd, .int .i64 nn] 68)).heap[w.heap.size]? = some (.cells #[.int .i64 kd, .int .i64 nn] 68 (0, 0)) := heap_alloc_new w _
  have b0 : (w.alloc (.cells #[.int .i64 kd, .int .i64 nn] 68)).cell? ⟨w.heap.size, 0, none⟩ = some (.int .i64 kd) := by simp only [World.cell?, hb]; rfl
  have b1 : (w.alloc (.cells #[.int .i64 kd, .int .i64 nn] 68)).cell? ⟨w.heap.size, 1, none⟩ = some (.int .i64 nn) := by simp only [World.cell?, hb]; rfl
  have q0 := (hq.keep HK1.out).cell
  have t0 := (ht.keep HK1.out).cell
  have a0 := (hA.keep HK1.out).cell (i := 0) (by omega)
  have a1 := (hA.keep HK1.out).cell (i := 1) (by omega)
  clear hx hq ht hA hb
  go_enter Tryd.func83, Tryd.ntmps83
  go_upto_region 1 with fail
  obtain ⟨W, hW⟩ : ∃ W, w.alloc (.cells #[.int .i64 kd, .int .i64 nn] 68) = W := ⟨_, rfl⟩
  rw [hW] at HK1 b0 b1 q0 t0 a0 a1 ⊢
  clear hW
  by_cases h3 : kd = 3
  · subst h3
    obtain ⟨hn0, hn1⟩ := HX.out rfl
    obtain ⟨p, rfl⟩ : ∃ p : Nat, nn = (p : Int) := ⟨nn.toNat, by simp only at hn0; omega⟩
    have hp : p < 128 := by simp only at hn1; omega
    have HP := hide1 hp
    clear HX hn0 hn1 hp t0
    have HM : Hid (missB t A (3, (p : Int)) = !A.testBit p) := by show _ = _; simp [missB]
    go_upto_region 2 with fail
    have k0 := keeps q0
    have k1 := keeps b1
    have k2 := keeps a0
    have k3 := keeps a1
    have hkr : Kept W W := Kept.refl W
    clear b0 b1 q0 a0 a1
    go_region_held3 (fun w' => Kept W w') (first | assumption | exact Kept.refl _ | exact gtrans (by assumption) (by assumption))
      ((go_at_call 48; refine (sHas_is A p HP.out _).mono ?_; rintro e w11 ⟨rfl, hk11⟩; have k11 : Kept W w11 := gtrans (by assumption) hk11))
    have HK11 := hide1 (gtrans HK1.out k11)
    clear k0 k1 k2 k3 hkr hk11 k11
    go_wp2_with fail
    go_ret
    exact ⟨by rw [HM.out]; rfl, HK11.out⟩
  · have HM : Hid (missB t A (kd, nn) = !t) := by show _ = _; simp [missB, h3]
    have hb3 : (kd == 3) = false := by simpa using h3
    go_wp2_with fail
    go_ret
    exact ⟨by rw [HM.out]; rfl, HK1.out⟩

end Ex
end Go.Proofs.YtggodknnfpegmaaDoor
namespace Go.Proofs.YtggodknnfpegmaaDoor
open Go.RowKit
namespace Ex

theorem eq_words {a0 a1 b0 b1 : Int} (w : World) (d : Nat) : (Op.equalIn (d + 2) 85 (.agg #[.int .u64 a0, .int .u64 a1]) (.agg #[.int .u64 b0, .int .u64 b1])).run Tryd.prog w = .ok (a0 == b0 && a1 == b1) w := by
  have hu : Tryd.prog.underlying 85 = some (.array 2 83) := by kernel_rfl
  have hi0 : (Tryd.prog.info? 83).isSome = true := by kernel_rfl
  obtain ⟨i, hi⟩ := Option.isSome_iff_exists.1 hi0
  have hpl : Tryd.prog.plainKey 83 = true := by kernel_rfl
  have hc : Tryd.prog.cellsOf 83 = 1 := by kernel_rfl
  have hw : Tryd.prog.underlying 83 = some (.int .u64) := by kernel_rfl
  have hp : ∀ (xs : Array Value) (k : Nat) (v : Value) (w : World), xs[k]? = some v → (part 83 xs k).run Tryd.prog w = .ok v w := by
    intro xs k v w h
    exact run_part_plain w hpl h
  rw [run_equalIn_array w (d + 1) _ _ hu hi, hc]
  show (Op.eqItems (d + 1) 83 1 _ _ [0, 1]).run _ _ = _
  simp only [Op.eqItems, Sem.run_bind, Nat.mul_one]
  rw [hp _ 0 (.int .u64 a0) w rfl]
  simp only [Result.andThen_ok]
  rw [hp _ 0 (.int .u64 b0) w rfl]
  simp only [Result.andThen_ok]
  rw [run_equalIn_int w d _ .u64 .u64 a0 b0 hw]
  simp only [Result.andThen_ok]
  cases h0 : (a0 == b0) with
  | false => simp
  | true =>
    simp only [Bool.not_true, Bool.false_eq_true, if_false, Sem.run_bind]
    rw [hp _ 1 (.int .u64 a1) w rfl]
    simp only [Result.andThen_ok]
    rw [hp _ 1 (.int .u64 b1) w rfl]
    simp only [Result.andThen_ok]
    rw [run_equalIn_int w d _ .u64 .u64 a1 b1 hw]
    simp only [Result.andThen_ok]
    cases h1 : (a1 == b1) with
    | false => simp
    | true => simp
theorem sets_ne {A B : Nat} (hA : A < 2 ^ 128) (hB : B < 2 ^ 128) : (wordAt A 0 = wordAt B 0 ∧ wordAt A 1 = wordAt B 1) ↔ A = B := by
  refine ⟨fun h => ?_, fun h => by subst h; exact ⟨rfl, rfl⟩⟩
  have h0 := h.1
  have h1 := h.2
  unfold wordAt at h0 h1
  simp only [Nat.mul_zero, Nat.pow_zero, Nat.div_one, Nat.mul_one] at h0 h1
  omega
theorem words_b {A B : Nat} (hA : A < 2 ^ 128) (hB : B < 2 ^ 128) : (((wordAt A 0 : Nat) : Int) == ((wordAt B 0 : Nat) : Int) && ((wordAt A 1 : Nat) : Int) == ((wordAt B 1 : Nat) : Int)) = (A == B) := by
  rw [Bool.eq_iff_iff, Bool.and_eq_true, beq_iff_eq, beq_iff_eq, beq_iff_eq, ← sets_ne hA hB]
  constructor
  · rintro ⟨h1, h2⟩; exact ⟨by omega, by omega⟩
  · rintro ⟨h1, h2⟩; exact ⟨by omega, by omega⟩
theorem neq_set {A B : Nat} (hA : A < 2 ^ 128) (hB : B < 2 ^ 128) (w : World) : (binOp .neq 85 (.agg #[.int .u64 (wordAt A 0 : Nat), .int .u64 (wordAt A 1 : Nat)]) (.agg #[.int .u64 (wordAt B 0 : Nat), .int .u64 (wordAt B 1 : Nat)])).run Tryd.prog w = .ok (.bool (A != B)) w := by
  rw [run_neq_struct]
  rw [eq_words w 9998, words_b hA hB]
  rfl

end Ex
end Go.Proofs.YtggodknnfpegmaaDoor
namespace Go.Proofs.YtggodknnfpegmaaDoor
open Go.RowKit
attribute [local go_sem] Oper.semAt_some
namespace Ex

theorem SetB.but {w w' : World} {b d A : Nat} (h : SetB w b A) (hk : KeptBut d w w') (hd : b ≠ d) : SetB w' b A := (hk.2.2.2.2 b h.lt hd).trans h
theorem SBox.but {w w' : World} {g d : Nat} {x0 x1 x2 x3 : Value} (h : SBox w g x0 x1 x2 x3) (hk : KeptBut d w w') (hd : g ≠ d) : SBox w' g x0 x1 x2 x3 := (hk.2.2.2.2 g h.lt hd).trans h
/-- A production in a box. -/
def PBox (w : World) (b : Nat) (l v : Value) : Prop := w.heap[b]? = some (.cells #[l, v] 40 (0, 0))
theorem PBox.cells {w : World} {b : Nat} {l v : Value} (h : PBox w b l v) : w.cell? ⟨b, 0, none⟩ = some l ∧ w.cell? ⟨b, 1, none⟩ = some v := by
  unfold PBox at h
  exact ⟨by simp [World.cell?, h], by simp [World.cell?, h]⟩
theorem PBox.lt {w : World} {b : Nat} {l v : Value} (h : PBox w b l v) : b < w.heap.size := (Array.getElem?_eq_some_iff.1 h).1
theorem PBox.keep {w w' : World} {b : Nat} {l v : Value} (h : PBox w b l v) (hk : Kept w w') : PBox w' b l v := (hk.2.2.2.2 b h.lt).trans h
theorem PBox.but {w w' : World} {b d : Nat} {l v : Value} (h : PBox w b l v) (hk : KeptBut d w w') (hd : b ≠ d) : PBox w' b l v := (hk.2.2.2.2 b h.lt hd).trans h
theorem PBox.new (w : World) (l v : Value) : PBox (w.alloc (.cells #[l, v] 40)) w.heap.size l v := heap_alloc_new w _
theorem any_miss {t : Bool} {A : Nat} {row : List SymM} : (row.any (missB t A) = false → ∀ x ∈ row, SymOk t (fun n => A.testBit n = true) x) ∧ (row.any (missB t A) = true → ∃ x ∈ row, ¬ SymOk t (fun n => A.testBit n = true) x) := by
  constructor
  · intro h x hx
    have := List.any_eq_false.1 h x hx
    unfold missB at this
    refine ⟨fun e => ?_, fun e => ?_⟩
    · rw [if_pos e] at this; simpa using this
    · rw [if_neg e] at this; simpa using this
  · intro h
    obtain ⟨x, hx, hm⟩ := List.any_eq_true.1 h
    refine ⟨x, hx, fun hs => ?_⟩
    unfold missB at hm
    by_cases e : x.1 = 3
    · rw [if_pos e] at hm
      have := hs.1 e
      simp only at this
      rw [this] at hm
      simp at hm
    · rw [if_neg e] at hm
      rw [hs.2 e] at hm
      simp at hm
/-- All productions of a spec are within its names, which are at most 128. -/
def ProdOk (p : ProdM) : Prop := (0 ≤ p.1 ∧ p.1 < 128) ∧ ∀ x ∈ p.2, NamesOk x
def MkI (t : Bool) (ps : List ProdM) (A d : Nat) (W : World) (vi : Value) (wr : World) : Prop := ∃ j A' : Nat, vi = .int .i64 (j : Int) ∧ j ≤ ps.length ∧ Hid (MkStep t ps A A' j) ∧ Hid (SetB wr d A') ∧ Hid (KeptBut d W wr)
set_option linter.unusedSimpArgs false in
set_option maxRecDepth 100000 in
set_option maxHeartbeats 4000000 in
theorem mkStep_is (t : Bool) (d tb g A : Nat) (ps : List ProdM) (x0 x1 x2 : Value) (ap : Option Addr) (np cp : Nat) (w0 w : World) (hps : ps.length = np) (hA : SetB w d A) (hA8 : A < 2 ^ 128) (ht : OneB w tb (.bool t) 4) (hg : SBox w g x0 x1 x2 (.slice ap np cp)) (hp : ProdsAt w0 (.slice ap np cp) ps) (hk : Kept w0 w) (hd : w0.heap.size ≤ d) (htd : tb ≠ d) (hgd : g ≠ d) (hok : ∀ p ∈ ps, ProdOk p) :
    Calls Tryd.prog 82 #[.pointer (some ⟨d, 0, none⟩), .pointer (some ⟨tb, 0, none⟩), .pointer (some ⟨g, 0, none⟩)] w fun e w' => ∃ A', MkStep t ps A A' ps.length ∧ e = .returned (.bool (A' != A)) ∧ SetB w' d A' ∧ KeptBut d w w' := by
  have HPS := hide1 hps
  have HA8 := hide1 hA8
  have HP := hide1 hp
  have HK0 := hide1 hk
  have HD := hide1 hd
  have HTD := hide1 htd
  have HGD := hide1 hgd
  have HOK := hide1 hok
  obtain ⟨_, _, e1, hc, hn⟩ := hp.len
  simp only [Value.slice.injEq] at e1
  obtain ⟨rfl, en, rfl⟩ := e1
  clear en
  rw [hps] at hc hn
  have gn : (np : Int) ≤ 17592186044416 := by omega
  have HDL := hide1 hA.lt
  have HK1 : Hid (Kept w (w.alloc (.cells #[.pointer (some ⟨d, 0, none⟩)] 130))) := (Kept.refl w).alloc _ _
  have HQ := hide1 (OneB.new w (.pointer (some ⟨d, 0, none⟩)) 130)
  have HS := hide1 (hA.keep HK1.out)
  have HT := hide1 (ht.keep HK1.out)
  have HG := hide1 (hg.keep HK1.out)
  clear hps hA hA8 ht hg hp hk hd htd hgd hok
  go_enter Tryd.func82, Tryd.ntmps82
  go_upto_region 1 with fail
  obtain ⟨W, hW⟩ : ∃ W, w.alloc (.cells #[.pointer (some ⟨d, 0, none⟩)] 130) = W := ⟨_, rfl⟩
  rw [hW] at HK1 HQ HS HT HG ⊢
  clear hW
  obtain ⟨qd, hqd⟩ : ∃ qd, w.heap.size = qd := ⟨_, rfl⟩
  rw [hqd] at HQ HDL ⊢
  have HQD := hide1 hqd
  clear hqd
  have q0 := HQ.out.cell
  have a0 := HS.out.cell (i := 0) (by omega)
  have a1 := HS.out.cell (i := 1) (by omega)
  obtain ⟨s0, s1, s2, s3⟩ := HG.out.facts
  go_upto_region 2 with fail
  have HK2 := hide1 (gtrans HK1.out ((Kept.refl W).alloc (setS A) 85))
  have HQ2 := hide1 (HQ.out.keep ((Kept.refl W).alloc (setS A) 85))
  have HS2 := hide1 (HS.out.keep ((Kept.refl W).alloc (setS A) 85))
  have HT2 := hide1 (HT.out.keep ((Kept.refl W).alloc (setS A) 85))
  have HG2 := hide1 (HG.out.keep ((Kept.refl W).alloc (setS A) 85))
  have HO2 := hide1 (SetB.new W A)
  have HOB : Hid (W.heap.size ≠ d) := Nat.ne_of_gt HS.out.lt
  have HQDD : Hid (qd ≠ d) := Nat.ne_of_gt HDL.out
  rw [setS_eq] at HK2 HQ2 HS2 HT2 HG2 HO2
  clear q0 a0 a1 s0 s1 s2 s3 HK1 HQ HS HT HG HDL
  obtain ⟨W2, hW2⟩ : ∃ W2, W.alloc (.cells #[.int .u64 (wordAt A 0 : Nat), .int .u64 (wordAt A 1 : Nat)] 85) = W2 := ⟨_, rfl⟩
  rw [hW2] at HK2 HQ2 HS2 HT2 HG2 HO2 ⊢
  clear hW2
  obtain ⟨ob, hob⟩ : ∃ ob, W.heap.size = ob := ⟨_, rfl⟩
  rw [hob] at HO2 HOB ⊢
  clear hob
  obtain ⟨s0, s1, s2, s3⟩ := HG2.out.facts
  go_wp2_with fail
  clear s0 s1 s2 s3
  go_loopw [16] (MkI t ps A d W2) (fun i _ => np - (intOf i).toNat)
  case atStart => exact ⟨0, A, rfl, Nat.zero_le _, MkStep.start t ps A, HS2, but_refl d W2⟩
  case round =>
    obtain ⟨j, A1, rfl, hj, HM, HSr, HKr⟩ := hrel
    rw [HPS.out] at hj
    by_cases hlt : (j : Int) < (np : Int)
    · obtain ⟨p, hp⟩ : ∃ p, ps[j]? = some p := ⟨_, List.getElem?_eq_getElem (by have := HPS.out; omega)⟩
      have HKw := hide1 (KeptBut.up (gtrans HK0.out HK2.out) HD.out HKr.out)
      obtain ⟨cb, o2, cs, ea, hcb, hlen, hcell, v', hcs, hrt⟩ := SliceOf.el (HP.out.keep HKw.out) hp
      subst ea hcs
      have k0 := hcell 0 _ rfl
      have k1 := hcell 1 _ rfl
      have k0 : wr.cell? ⟨cb, o2 + j * 2, none⟩ = some (.int .i64 p.1) := k0
      have gjc : (j : Int) < (cp : Int) := by omega
      have HOKp := hide1 (HOK.out p (List.mem_of_getElem? hp))
      have HPJ := hide1 hp
      obtain ⟨ar, cr, rfl, hcr, hnr⟩ := hrt.len
      obtain ⟨nr, hnr2⟩ : ∃ nr, p.2.length = nr := ⟨_, rfl⟩
      rw [hnr2] at hrt hcr hnr k1
      have HRT := hide1 hrt
      have HNR := hide1 hnr2
      obtain ⟨l, hl⟩ : ∃ l : Nat, p.1 = (l : Int) := ⟨p.1.toNat, by have := HOKp.out.1.1; omega⟩
      have HLE : Hid (p.1.toNat = l) := by show _ = _; omega
      have HL : Hid (l < 128) := by have := HOKp.out.1; show _ < _; omega
      rw [hl] at k0
      clear hp hcell hrt hnr2 hl
      have HPB := hide1 (PBox.new wr (.int .i64 (l : Int)) (.slice ar nr cr))
      have HK4 : Hid (Kept wr (wr.alloc (.cells #[.int .i64 (l : Int), .slice ar nr cr] 40))) := (Kept.refl wr).alloc _ _
      have HPBD : Hid (wr.heap.size ≠ d) := Nat.ne_of_gt HSr.out.lt
      go_upto_region 6 with fail
      clear k0 k1
      obtain ⟨W4, hW4⟩ : ∃ W4, wr.alloc (.cells #[.int .i64 (l : Int), .slice ar nr cr] 40) = W4 := ⟨_, rfl⟩
      rw [hW4] at HPB HK4 ⊢
      clear hW4
      obtain ⟨pb, hpb⟩ : ∃ pb, wr.heap.size = pb := ⟨_, rfl⟩
      rw [hpb] at HPB HPBD ⊢
      clear hpb
      have p1 := HPB.out.cells.2
      have HS4 := hide1 (HSr.out.keep HK4.out)
      have HQ4 := hide1 ((HQ2.out.but HKr.out HQDD.out).keep HK4.out)
      have HT4 := hide1 ((HT2.out.but HKr.out HTD.out).keep HK4.out)
      have HC : Hid (∀ b, p.2.any (missB t A1) = b → Calls Tryd.prog 84 #[.slice ar nr cr, .func (.func 83) #[] #[.pointer (some ⟨qd, 0, none⟩), .pointer (some ⟨tb, 0, none⟩)]] W4 fun e w' => e = .returned (.bool b) ∧ Kept W4 w') := fun b hb =>
        containsSym_is 83 _ (missB t A1) ar nr cr p.2 HNR.out b hb W4 (HRT.out.keep HK4.out) (fun x hx wr' hk' => missing_is qd tb d A1 t x wr' (HOKp.out.2 x hx) (HQ4.out.keep hk') (HT4.out.keep hk') (HS4.out.keep hk')) (enters_of Tryd.func83 (by kernel_rfl) rfl)
      cases hany : p.2.any (missB t A1) with
      | true =>
        have HC2 := hide1 (HC.out true hany)
        obtain ⟨x, hx, hnx⟩ := any_miss.2 hany
        have HM2 := hide1 (HM.out.skip HPJ.out hx hnx)
        clear hany hx hnx HC
        go_wp2_with (go_at_call 84; refine HC2.out.mono ?_; rintro e w6 ⟨rfl, hk6⟩; have HK6 := hide1 (gtrans HK4.out hk6); clear hk6)
        go_roundw
        case rel => exact ⟨j + 1, A1, by go_num, by rw [HPS.out]; omega, HM2, HSr.out.keep HK6.out, HKr.out.trans (HK6.out.but d)⟩
        case measure => simp [intOf]; omega
      | false =>
        have HC2 := hide1 (HC.out false hany)
        have HM2 := hide1 (HM.out.put HPJ.out (any_miss.1 hany) (by rw [HLE.out]; exact HL.out))
        rw [HLE.out] at HM2
        clear hany HC
        go_upto_region 7 with (go_at_call 84; refine HC2.out.mono ?_; rintro e W5 ⟨rfl, hk6⟩; have HK6 := hide1 hk6; clear hk6)
        clear p1 HC2
        have HPB := hide1 (HPB.out.keep HK6.out)
        have HS5 := hide1 (HS4.out.keep HK6.out)
        have HQ5 := hide1 (HQ4.out.keep HK6.out)
        have HK5 := hide1 (gtrans HK4.out HK6.out)
        refine wp_region_held_drew (S := fun X => KeptBut d W5 X) (by kernel_rfl) (but_refl d W5) (fun hHeld => ?_)
        refine wpAnyH_take (i := 0) (v := .pointer (some ⟨d, 0, none⟩)) rfl (by kernel_rfl) (by kernel_rfl) (by kernel_rfl) (fun _ _ _ h => h) (Or.inl ⟨by rfl, fun w' hSw => ?_⟩) (by with_reducible assumption) ?_
        · have s0 := (HQ5.out.but hSw HQDD.out).cell
          clear hSw
          go_simp
        try simp only [Act.put, List.setIfInBounds_toArray, List.set_cons_zero, List.set_cons_succ]
        refine wpAnyH_take (i := 1) (v := .pointer (some ⟨d, 0, none⟩)) rfl (by kernel_rfl) (by kernel_rfl) (by kernel_rfl) (fun _ _ _ h => h) (Or.inl ⟨by rfl, fun w' hSw => ?_⟩) (by with_reducible assumption) ?_
        · have s0 := (HQ5.out.but hSw HQDD.out).cell
          clear hSw
          go_simp
        try simp only [Act.put, List.setIfInBounds_toArray, List.set_cons_zero, List.set_cons_succ]
        refine wpAnyH_take (i := 2) (v := .pointer (some ⟨d, 0, none⟩)) rfl (by kernel_rfl) (by kernel_rfl) (by kernel_rfl) (fun _ _ _ h => h) (Or.inl ⟨by rfl, fun w' hSw => ?_⟩) (by with_reducible assumption) ?_
        · clear hSw
          go_simp
        try simp only [Act.put, List.setIfInBounds_toArray, List.set_cons_zero, List.set_cons_succ]
        refine wpAnyH_take (i := 4) (v := .pointer (some ⟨pb, 0, none⟩)) rfl (by kernel_rfl) (by kernel_rfl) (by kernel_rfl) (fun _ _ _ h => h) (Or.inl ⟨by rfl, fun w' hSw => ?_⟩) (by with_reducible assumption) ?_
        · clear hSw
          go_simp
        try simp only [Act.put, List.setIfInBounds_toArray, List.set_cons_zero, List.set_cons_succ]
        refine wpAnyH_take (i := 5) (v := .int .i64 (l : Int)) rfl (by kernel_rfl) (by kernel_rfl) (by kernel_rfl) (fun _ _ _ h => h) (Or.inl ⟨by rfl, fun w' hSw => ?_⟩) (by with_reducible assumption) ?_
        · have s0 := (PBox.but HPB.out hSw HPBD.out).cells.1
          clear hSw
          go_simp
        try simp only [Act.put, List.setIfInBounds_toArray, List.set_cons_zero, List.set_cons_succ]
        refine wpAnyH_ready (rs := [3]) (by kernel_rfl) (by simp) ?_
        refine AllReadyH.cons (i := 3) rfl (fun K hK => ?_) AllReadyH.nil
        have a0 : W5.drew.cell? ⟨d, 0, none⟩ = some (.int .u64 (wordAt A1 0 : Nat)) := HS5.out.cell (i := 0) (by omega)
        have a1 : W5.drew.cell? ⟨d, 1, none⟩ = some (.int .u64 (wordAt A1 1 : Nat)) := HS5.out.cell (i := 1) (by omega)
        go_simp
        clear a0 a1
        refine hK.out _ _ hHeld (fun hHeld2 => ?_)
        clear hK K hHeld
        have hHeld := hHeld2
        clear hHeld2
        try simp only [Act.put, List.setIfInBounds_toArray, List.set_cons_zero, List.set_cons_succ]
        refine wpAnyH_ready (rs := [6]) (by kernel_rfl) (by simp) ?_
        refine AllReadyH.cons (i := 6) rfl (fun K hK => ?_) AllReadyH.nil
        go_simp
        go_wp2_with (go_at_call 72; refine (sWith_is A1 l HL.out _).mono ?_; rintro e w7 ⟨rfl, hk7⟩; rw [setS_eq]; have HK7 := hide1 (gtrans (drew_kept W5) hk7); clear hk7)
        refine hK.out _ _ (HK7.out.but d) (fun hHeld2 => ?_)
        clear hK K hHeld
        have hHeld := hHeld2
        clear hHeld2
        try simp only [Act.put, List.setIfInBounds_toArray, List.set_cons_zero, List.set_cons_succ]
        refine wpAnyH_take (i := 7) (v := .pointer (some ⟨d, 0, none⟩)) rfl (by kernel_rfl) (by kernel_rfl) (by kernel_rfl) (fun _ _ _ h => h) (Or.inl ⟨by rfl, fun w' hSw => ?_⟩) (by with_reducible assumption) ?_
        · clear hSw
          go_simp
        try simp only [Act.put, List.setIfInBounds_toArray, List.set_cons_zero, List.set_cons_succ]
        refine wpAnyH_ready (rs := [8]) (by kernel_rfl) (by simp) ?_
        refine AllReadyH.cons (i := 8) rfl (fun K hK => ?_) AllReadyH.nil
        have HS7 := hide1 (HS5.out.keep HK7.out)
        have a0 := HS7.out.cell (i := 0) (by omega)
        have a1 := HS7.out.cell (i := 1) (by omega)
        have z0 := HS7.out.free 0
        have z1 := HS7.out.free 1
        go_simp
        clear a0 a1 z0 z1
        have HS8 := hide1 (HS7.out.fill (B := A1 ||| 2 ^ l))
        have HK8 : Hid (KeptBut d W5 ((w7.setCell ⟨d, 0, none⟩ (.int .u64 (wordAt (A1 ||| 2 ^ l) 0 : Nat))).setCell ⟨d, 1, none⟩ (.int .u64 (wordAt (A1 ||| 2 ^ l) 1 : Nat)))) := but_set (but_set (HK7.out.but d) _ _) _ _
        refine hK.out _ _ HK8.out (fun hHeld2 => ?_)
        clear hK K hHeld
        have hHeld := hHeld2
        clear hHeld2
        try simp only [Act.put, List.setIfInBounds_toArray, List.set_cons_zero, List.set_cons_succ]
        refine wpAnyH_done (by kernel_rfl) ?_ _
        clear hHeld
        go_wp2_with fail
        go_roundw
        case rel => exact ⟨j + 1, _, by go_num, by rw [HPS.out]; omega, HM2, HS8, HKr.out.trans ((HK5.out.but d).trans HK8.out)⟩
        case measure => simp [intOf]; omega
    · have hjn : j = ps.length := by have := HPS.out; omega
      have HM2 : Hid (MkStep t ps A A1 ps.length) := hjn ▸ HM
      have HSO := hide1 (HO2.out.but HKr.out HOB.out)
      have q0 := (HQ2.out.but HKr.out HQDD.out).cell
      have a0 := HSr.out.cell (i := 0) (by omega)
      have a1 := HSr.out.cell (i := 1) (by omega)
      have b0 := HSO.out.cell (i := 0) (by omega)
      have b1 := HSO.out.cell (i := 1) (by omega)
      have hne := neq_set (HM2.out.bound HA8.out) HA8.out
      go_upto_region 9 with fail
      go_quiet (fail)
      go_wp2_with fail
      go_ret
      exact ⟨A1, HM2.out, rfl, HSr.out, ((HK2.out.but d).trans HKr.out).trans ((drewN_kept _ _).but d)⟩

end Ex
end Go.Proofs.YtggodknnfpegmaaDoor
namespace Go.Proofs.YtggodknnfpegmaaDoor
open Go.RowKit
attribute [local go_sem] Oper.semAt_some
namespace Ex

/-- The set that lies in a block, read off the world. -/
def rdSet (d : Nat) (w : World) : Nat := match w.heap[d]? with | some (.cells cs _ _) => (intOf (cs.getD 0 undef)).toNat + (intOf (cs.getD 1 undef)).toNat * 2 ^ 64 | _ => 0
theorem SetB.rd {w : World} {d A : Nat} (h : SetB w d A) (hA : A < 2 ^ 128) : rdSet d w = A := by
  unfold SetB at h
  unfold rdSet
  rw [h]
  show (intOf (.int .u64 (wordAt A 0 : Nat))).toNat + (intOf (.int .u64 (wordAt A 1 : Nat))).toNat * 2 ^ 64 = A
  show ((wordAt A 0 : Nat) : Int).toNat + ((wordAt A 1 : Nat) : Int).toNat * 2 ^ 64 = A
  rw [Int.toNat_natCast, Int.toNat_natCast]
  unfold wordAt
  simp only [Nat.mul_zero, Nat.pow_zero, Nat.div_one, Nat.mul_one]
  omega
/-- The loop of least. -/
def LsI (R : Nat → Prop) (w : World) (wr : World) : Prop := ∃ A, Hid (R A) ∧ Hid (SetB wr w.heap.size A) ∧ Hid (SetB wr (w.heap.size + 1) 0) ∧ Hid (Kept w wr)
set_option linter.unusedSimpArgs false in
set_option maxRecDepth 100000 in
set_option maxHeartbeats 4000000 in
theorem leastSet_is (f : Nat) (bs : Array Value) (A0 : Nat) (R Fin : Nat → Prop) (w : World) (h0 : R A0) (hR : ∀ A, R A → A < 2 ^ 128) (ef : ∀ args w, (callFunc f args).run Tryd.prog w = .ok (.enter f args) w)
    (hf : ∀ A wr, R A → SetB wr w.heap.size A → Kept w wr → Calls Tryd.prog f (#[.pointer (some ⟨w.heap.size, 0, none⟩)] ++ bs) wr fun e w' => ∃ A', R A' ∧ (∀ n, A.testBit n = true → A'.testBit n = true) ∧ (A' = A → Fin A) ∧ e = .returned (.bool (A' != A)) ∧ SetB w' w.heap.size A' ∧ KeptBut w.heap.size wr w') :
    Calls Tryd.prog 81 #[.agg (setS A0), .func (.func f) #[] bs] w fun e w' => ∃ A, R A ∧ Fin A ∧ e = .returned (.agg (setS A)) ∧ Kept w w' := by
  have H0 := hide1 h0
  have HR := hide1 hR
  have HF := hide1 hf
  obtain ⟨h1, h2, h3⟩ := set_two w A0
  have HS1 := hide1 h1
  have HS2 := hide1 h2
  have HK := hide1 h3
  clear h0 hR hf h1 h2 h3
  go_enter Tryd.func81, Tryd.ntmps81
  go_upto_region 1 with fail
  go_loopw [] (LsI R w) (fun wr => leftS (rdSet w.heap.size wr))
  case atStart => exact ⟨A0, H0, HS2, HS1, HK⟩
  case round =>
    obtain ⟨A, HA, HSA, HSZ, HKr⟩ := hrel
    have HC := hide1 (HF.out A wr HA.out HSA.out HKr.out)
    have hef := ef
    go_wp2_with fail
    refine HC.out.mono ?_
    rintro e w6 ⟨A', hr6, hu6, hf6, rfl, hs6, hk6⟩
    have HR6 := hide1 hr6
    have HU6 := hide1 hu6
    have HF6 := hide1 hf6
    have HS6 := hide1 hs6
    have HK6 := hide1 hk6
    have HZ6 := hide1 (HSZ.out.but hk6 (by omega))
    have HKK := hide1 (KeptBut.up HKr.out (Nat.le_refl _) hk6)
    clear hr6 hu6 hf6 hs6 hk6
    by_cases hne : A' = A
    · have hb : (A' != A) = false := by simp [hne]
      rw [hb]
      have HFA := hide1 (HF6.out hne)
      clear hb
      rw [hne] at HS6 HR6
      clear hne
      have c0 := HS6.out.cell (i := 0) (by omega)
      have c1 := HS6.out.cell (i := 1) (by omega)
      have r0 := HZ6.out.cell (i := 0) (by omega)
      have r1 := HZ6.out.cell (i := 1) (by omega)
      have z0 := HZ6.out.free 0
      have z1 := HZ6.out.free 1
      go_wp2_with fail
      refine bodyPost_ret (results_cell_row rfl _ _ (w.heap.size + 1) 85 (setS A) (0, 0) _ rfl HZ6.out.fill Tryd.underlying85 rfl (set2_size _)) rfl ?_
      exact ⟨A, HR6.out, HFA.out, rfl, keepB (keepB HKK.out (by omega)) (by omega)⟩
    · have hb : (A' != A) = true := by simpa using hne
      rw [hb]
      have HNE := hide1 hne
      clear hb hne
      go_wp2_with fail
      go_roundw
      case rel => exact ⟨A', HR6, HS6, HZ6, HKK⟩
      case measure =>
        rw [HS6.out.rd (HR.out _ HR6.out), HSA.out.rd (HR.out _ HA.out)]
        exact leftS_lt HU6.out (HR.out _ HA.out) (HR.out _ HR6.out) (fun e => HNE.out e.symm)
set_option linter.unusedSimpArgs false in
set_option maxRecDepth 100000 in
set_option maxHeartbeats 4000000 in
theorem making_is (t : Bool) (ps : List ProdM) (x0 x1 x2 : Value) (ap : Option Addr) (np cp : Nat) (w : World) (hps : ps.length = np) (hp : ProdsAt w (.slice ap np cp) ps) (hok : ∀ p ∈ ps, ProdOk p) :
    Calls Tryd.prog 47 #[.agg #[x0, x1, x2, .slice ap np cp], .bool t] w fun e w' => ∃ A, e = .returned (.agg (setS A)) ∧ (∀ n, A.testBit n = true ↔ Mk t ps n) ∧ A < 2 ^ 128 ∧ Kept w w' := by
  have HK1 : Hid (Kept w (w.alloc (.cells #[x0, x1, x2, .slice ap np cp] 26))) := (Kept.refl w).alloc _ _
  have HB1 := hide1 (SBox.new w x0 x1 x2 (.slice ap np cp))
  have HK2 : Hid (Kept (w.alloc (.cells #[x0, x1, x2, .slice ap np cp] 26)) ((w.alloc (.cells #[x0, x1, x2, .slice ap np cp] 26)).alloc (.cells #[.bool t] 4))) := (Kept.refl _).alloc _ _
  have HB2 := hide1 (OneB.new (w.alloc (.cells #[x0, x1, x2, .slice ap np cp] 26)) (.bool t) 4)
  have HK3 : Hid (Kept ((w.alloc (.cells #[x0, x1, x2, .slice ap np cp] 26)).alloc (.cells #[.bool t] 4)) (((w.alloc (.cells #[x0, x1, x2, .slice ap np cp] 26)).alloc (.cells #[.bool t] 4)).alloc (.cells #[.int .u64 0, .int .u64 0] 85))) := (Kept.refl _).alloc _ _
  have HB3 : Hid (SetB (((w.alloc (.cells #[x0, x1, x2, .slice ap np cp] 26)).alloc (.cells #[.bool t] 4)).alloc (.cells #[.int .u64 0, .int .u64 0] 85)) ((w.alloc (.cells #[x0, x1, x2, .slice ap np cp] 26)).alloc (.cells #[.bool t] 4)).heap.size 0) := heap_alloc_new _ _
  rw [World.size_alloc] at HB2
  rw [World.size_alloc, World.size_alloc] at HB3
  have HP := hide1 hp
  have HPS := hide1 hps
  have HOK := hide1 hok
  clear hp hps hok
  go_enter Tryd.func47, Tryd.ntmps47
  go_upto_region 1 with fail
  obtain ⟨W1, hW1⟩ : ∃ W1, w.alloc (.cells #[x0, x1, x2, .slice ap np cp] 26) = W1 := ⟨_, rfl⟩
  rw [hW1] at HK1 HB1 HK2 HB2 HK3 HB3 ⊢
  obtain ⟨W2, hW2⟩ : ∃ W2, W1.alloc (.cells #[.bool t] 4) = W2 := ⟨_, rfl⟩
  rw [hW2] at HK2 HB2 HK3 HB3 ⊢
  obtain ⟨W3, hW3⟩ : ∃ W3, W2.alloc (.cells #[.int .u64 0, .int .u64 0] 85) = W3 := ⟨_, rfl⟩
  rw [hW3] at HK3 HB3 ⊢
  clear hW1 hW2 hW3
  obtain ⟨b, hb⟩ : ∃ b, w.heap.size = b := ⟨_, rfl⟩
  rw [hb] at HB1 HB2 HB3 ⊢
  have HB := hide1 hb
  clear hb
  have HL3 := hide1 HB3.out.lt
  have HKW := hide1 (gtrans HK1.out (gtrans HK2.out HK3.out))
  have HB13 := hide1 (HB1.out.keep (gtrans HK2.out HK3.out))
  have HB23 := hide1 (HB2.out.keep HK3.out)
  have HC := hide1 (leastSet_is 82 #[.pointer (some ⟨b + 1, 0, none⟩), .pointer (some ⟨b, 0, none⟩)] 0 (fun A => A < 2 ^ 128 ∧ ∀ n, A.testBit n = true → Mk t ps n) (fun A => MkStep t ps A A ps.length) W3 ⟨by decide, fun n h => by simp at h⟩ (fun A h => h.1) (enters_of Tryd.func82 (by kernel_rfl) rfl)
    (fun A wr hR hS hk => (mkStep_is t W3.heap.size (b + 1) b A ps x0 x1 x2 ap np cp W3 wr HPS.out hS hR.1 (HB23.out.keep hk) (HB13.out.keep hk) (HP.out.keep HKW.out) hk (Nat.le_refl _) (by have := HL3.out; omega) (by have := HL3.out; omega) HOK.out).mono (by
      rintro e w' ⟨A', hm, he, hs, hk'⟩
      exact ⟨A', ⟨hm.bound hR.1, hm.sound hR.2⟩, hm.up, fun e => e ▸ hm, he, hs, hk'⟩)))
  go_wp2_with (go_at_call 81; refine HC.out.mono ?_; rintro e w6 ⟨A, hr6, hf6, rfl, hk6⟩; rw [setS_eq]; have HR6 := hide1 hr6; have HF6 := hide1 hf6; have HK6 := hide1 hk6; have HZ6 := hide1 (HB3.out.keep hk6); have r0 := HZ6.out.cell (i := 0) (by omega); have r1 := HZ6.out.cell (i := 1) (by omega); have z0 := HZ6.out.free 0; have z1 := HZ6.out.free 1; clear hr6 hf6 hk6)
  refine bodyPost_ret (results_cell_row rfl _ _ (b + 1 + 1) 85 (setS A) (0, 0) _ rfl HZ6.out.fill Tryd.underlying85 rfl (set2_size _)) rfl ?_
  exact ⟨A, rfl, mk_is HR6.out.2 HF6.out.done, HR6.out.1, keepB (keepB (gtrans HKW.out HK6.out) (by rw [HB.out]; omega)) (by rw [HB.out]; omega)⟩

end Ex
end Go.Proofs.YtggodknnfpegmaaDoor
