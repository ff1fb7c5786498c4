import Derived.Test.YtggodknnfpegmaaDoorMSpIx
namespace Go.Proofs.YtggodknnfpegmaaDoor
open Go.RowKit
attribute [local go_sem] Oper.semAt_some
namespace Ex

/-- A fault in a box. -/
def FlBox (w : World) (b : Nat) (e a : Int) : Prop := w.heap[b]? = some (.cells #[.int .i64 e, .int .i64 a, .string ⟨#[]⟩] 44 (0, 0))
def faultV (x : Int × Int) : Value := .agg #[.int .i64 x.1, .int .i64 x.2, .string ⟨#[]⟩]
theorem FlBox.cells {w : World} {b : Nat} {e a : Int} (h : FlBox w b e a) : (w.cell? ⟨b, 0, none⟩ = some (.int .i64 e) ∧ w.cell? ⟨b, 1, none⟩ = some (.int .i64 a) ∧ w.cell? ⟨b, 2, none⟩ = some (.string ⟨#[]⟩)) ∧ w.frozen? ⟨b, 0, none⟩ = false ∧ w.frozen? ⟨b, 1, none⟩ = false ∧ w.frozen? ⟨b, 2, none⟩ = false := by
  unfold FlBox at h
  refine ⟨⟨?_, ?_, ?_⟩, ?_, ?_, ?_⟩ <;> simp [World.cell?, World.frozen?, h]
theorem FlBox.lt {w : World} {b : Nat} {e a : Int} (h : FlBox w b e a) : b < w.heap.size := (Array.getElem?_eq_some_iff.1 h).1
theorem FlBox.keep {w w' : World} {b : Nat} {e a : Int} (h : FlBox w b e a) (hk : Kept w w') : FlBox w' b e a := (hk.2.2.2.2 b h.lt).trans h
theorem FlBox.new (w : World) : FlBox (w.alloc (.cells #[.int .i64 0, .int .i64 0, .string ⟨#[]⟩] 44)) w.heap.size 0 0 := heap_alloc_new w _
theorem FlBox.fill {w : World} {b : Nat} {e a : Int} (h : FlBox w b e a) (e2 a2 : Int) : FlBox (((w.setCell ⟨b, 0, none⟩ (.int .i64 e2)).setCell ⟨b, 1, none⟩ (.int .i64 a2)).setCell ⟨b, 2, none⟩ (.string ⟨#[]⟩)) b e2 a2 := by
  unfold FlBox at h ⊢
  have hl : b < w.heap.size := (Array.getElem?_eq_some_iff.1 h).1
  have he : w.heap[b] = Obj.cells #[.int .i64 e, .int .i64 a, .string ⟨#[]⟩] 44 (0, 0) := by rw [Array.getElem?_eq_getElem hl] at h; exact Option.some.inj h
  simp [World.setCell, Array.getElem_modify, hl, he]
theorem fault_size (e a : Int) : (Tryd.prog.info? 44).map (·.size) = some (#[Value.int .i64 e, Value.int .i64 a, Value.string ⟨#[]⟩]).size := by
  show _ = some 3
  kernel_rfl
/-- What every check of a fault makes at its entry: the spec's box and the answer's. -/
theorem chk_start (w : World) (x0 x1 x2 x3 : Value) : SBox ((w.alloc (.cells #[x0, x1, x2, x3] 26)).alloc (.cells #[.int .i64 0, .int .i64 0, .string ⟨#[]⟩] 44)) w.heap.size x0 x1 x2 x3 ∧ FlBox ((w.alloc (.cells #[x0, x1, x2, x3] 26)).alloc (.cells #[.int .i64 0, .int .i64 0, .string ⟨#[]⟩] 44)) (w.heap.size + 1) 0 0 ∧ Kept w ((w.alloc (.cells #[x0, x1, x2, x3] 26)).alloc (.cells #[.int .i64 0, .int .i64 0, .string ⟨#[]⟩] 44)) := by
  refine ⟨(SBox.new w x0 x1 x2 x3).keep ((Kept.refl _).alloc _ _), ?_, ((Kept.refl w).alloc _ _).alloc _ _⟩
  have h := FlBox.new (w.alloc (.cells #[x0, x1, x2, x3] 26))
  rw [World.size_alloc] at h
  exact h
/-- The first of n numbers of which P does not hold; or none. -/
def FirstMiss (P : Nat → Prop) (n : Nat) (err : Int) (x : Int × Int) : Prop := (∃ i, i < n ∧ ¬ P i ∧ (∀ k, k < i → P k) ∧ x = (err, (i : Int))) ∨ ((∀ k, k < n → P k) ∧ x = (0, 0))
theorem FirstMiss.one {P P' : Nat → Prop} {n : Nat} {err : Int} {x y : Int × Int} (hP : ∀ k, k < n → (P k ↔ P' k)) (hx : FirstMiss P n err x) (hy : FirstMiss P' n err y) : x = y := by
  rcases hx with ⟨i, hi, hni, hbi, rfl⟩ | ⟨ha, rfl⟩
  · rcases hy with ⟨j, hj, hnj, hbj, rfl⟩ | ⟨hb, rfl⟩
    · have : i = j := by
        rcases Nat.lt_trichotomy i j with h | h | h
        · exact absurd ((hP i hi).2 (hbj i h)) hni
        · exact h
        · exact absurd ((hP j hj).1 (hbi j h)) hnj
      rw [this]
    · exact absurd ((hP i hi).2 (hb i hi)) hni
  · rcases hy with ⟨j, hj, hnj, hbj, rfl⟩ | ⟨hb, rfl⟩
    · exact absurd ((hP j hj).1 (ha j hj)) hnj
    · rfl
/-- A fault is answered, of which Q holds, and all memory stays. -/
def FaultR (Q : Int × Int → Prop) (w : World) (e : Ending) (w' : World) : Prop := ∃ x, e = .returned (faultV x) ∧ Q x ∧ Kept w w'
def SnI (A : Nat) (W : World) (vi : Value) (wr : World) : Prop := ∃ j : Nat, vi = .int .i64 (j : Int) ∧ Hid (∀ k, k < j → A.testBit k = true) ∧ Hid (Kept W wr)
set_option linter.unusedSimpArgs false in
set_option maxRecDepth 100000 in
set_option maxHeartbeats 4000000 in
theorem checkSentences_is (ps : List ProdM) (x0 x2 : Value) (an ap : Option Addr) (nn cn np cp : Nat) (w : World) (hnn : nn ≤ 128) (hps : ps.length = np) (hp : ProdsAt w (.slice ap np cp) ps) (hok : ∀ p ∈ ps, ProdOk p) :
    Calls Tryd.prog 67 #[.agg #[x0, .slice an nn cn, x2, .slice ap np cp]] w (FaultR (FirstMiss (Mk true ps) nn 73) w) := by
  obtain ⟨h1, h2, h3⟩ := chk_start w x0 (.slice an nn cn) x2 (.slice ap np cp)
  have HB := hide1 h1
  have HF := hide1 h2
  have HK := hide1 h3
  have HP := hide1 hp
  have HPS := hide1 hps
  have HOK := hide1 hok
  have gn : (nn : Int) ≤ 128 := by omega
  clear h1 h2 h3 hp hps hok
  go_enter Tryd.func67, Tryd.ntmps67
  go_upto_region 1 with fail
  obtain ⟨W, hW⟩ : ∃ W, (w.alloc (.cells #[x0, .slice an nn cn, x2, .slice ap np cp] 26)).alloc (.cells #[.int .i64 0, .int .i64 0, .string ⟨#[]⟩] 44) = W := ⟨_, rfl⟩
  rw [hW] at HB HF HK ⊢
  clear hW
  obtain ⟨b, hb⟩ : ∃ b, w.heap.size = b := ⟨_, rfl⟩
  rw [hb] at HB HF ⊢
  have HSZ := hide1 hb
  clear hb
  obtain ⟨s0, s1, s2, s3⟩ := HB.out.facts
  go_upto_region 2 with (go_at_call 47; refine (making_is true ps x0 (.slice an nn cn) x2 ap np cp _ HPS.out (HP.out.keep HK.out) HOK.out).mono ?_; rintro e w6 ⟨A, rfl, ha6, hb6, hk6⟩; rw [setS_eq]; have HA6 := hide1 ha6; have HK6 := hide1 hk6; clear ha6 hk6 hb6)
  clear s0 s1 s2 s3
  have HKA : Hid (Kept w6 (w6.alloc (.cells #[.int .u64 (wordAt A 0 : Nat), .int .u64 (wordAt A 1 : Nat)] 85))) := (Kept.refl _).alloc _ _
  have HSA := hide1 (SetB.new w6 A)
  rw [setS_eq] at HSA
  obtain ⟨W7, hW7⟩ : ∃ W7, w6.alloc (.cells #[.int .u64 (wordAt A 0 : Nat), .int .u64 (wordAt A 1 : Nat)] 85) = W7 := ⟨_, rfl⟩
  rw [hW7] at HKA HSA ⊢
  clear hW7
  obtain ⟨sb, hsb⟩ : ∃ sb, w6.heap.size = sb := ⟨_, rfl⟩
  rw [hsb] at HSA ⊢
  clear hsb
  have HK7 := hide1 (gtrans HK.out (gtrans HK6.out HKA.out))
  have HF7 := hide1 (HF.out.keep (gtrans HK6.out HKA.out))
  obtain ⟨s0, s1, s2, s3⟩ := (HB.out.keep (gtrans HK6.out HKA.out)).facts
  go_wp2_with fail
  clear s0 s1 s2 s3
  go_loopw [10] (SnI A W7) (fun i _ => nn - (intOf i).toNat)
  case atStart => exact ⟨0, rfl, fun k hk => by omega, Kept.refl W7⟩
  case round =>
    obtain ⟨j, rfl, HJ, HKr⟩ := hrel
    obtain ⟨⟨f0, f1, f2⟩, z0, z1, z2⟩ := (HF7.out.keep HKr.out).cells
    by_cases hlt : (j : Int) < (nn : Int)
    · have a0 := (HSA.out.keep HKr.out).cell (i := 0) (by omega)
      have a1 := (HSA.out.keep HKr.out).cell (i := 1) (by omega)
      have HJ8 : Hid (j < 128) := by show _ < _; omega
      cases hbit : A.testBit j with
      | true =>
        have HBT := hide1 hbit
        clear hbit f0 f1 f2 z0 z1 z2
        go_wp2_with (go_at_call 48; refine (sHas_is A j HJ8.out _).mono ?_; rintro e w8 ⟨rfl, hk8⟩; rw [HBT.out]; have HK8 := hide1 (gtrans HKr.out hk8); clear hk8)
        go_roundw
        case rel => exact ⟨j + 1, by go_num, fun k hk => (by rcases Nat.lt_or_ge k j with h | h; exact HJ.out k h; rw [show k = j by omega]; exact HBT.out), HK8⟩
        case measure => simp [intOf]; omega
      | false =>
        have HBT := hide1 hbit
        clear hbit f0 f1 f2 z0 z1 z2
        go_wp2_with (go_at_call 48; refine (sHas_is A j HJ8.out _).mono ?_; rintro e w8 ⟨rfl, hk8⟩; rw [HBT.out]; have HK8 := hide1 (gtrans HKr.out hk8); have HF8 := hide1 (HF7.out.keep HK8.out); obtain ⟨⟨f0, f1, f2⟩, z0, z1, z2⟩ := HF8.out.cells; clear hk8)
        refine bodyPost_ret (results_cell_row rfl _ _ (b + 1) 44 _ (0, 0) _ rfl (HF8.out.fill 73 (j : Int)) Tryd.underlying44 rfl (fault_size _ _)) rfl ?_
        refine ⟨(73, (j : Int)), rfl, .inl ⟨j, by omega, fun h => ?_, fun k hk => (HA6.out k).1 (HJ.out k hk), rfl⟩, keepB (keepB (keepB (gtrans HK7.out HK8.out) (by rw [HSZ.out]; omega)) (by rw [HSZ.out]; omega)) (by rw [HSZ.out]; omega)⟩
        have := (HA6.out j).2 h
        rw [HBT.out] at this
        cases this
    · go_wp2_with fail
      refine bodyPost_ret (results_cell_row rfl _ _ (b + 1) 44 _ (0, 0) _ rfl ((HF7.out.keep HKr.out).fill 0 0) Tryd.underlying44 rfl (fault_size _ _)) rfl ?_
      exact ⟨(0, 0), rfl, .inr ⟨fun k hk => (HA6.out k).1 (HJ.out k (by omega)), rfl⟩, keepB (keepB (keepB (gtrans HK7.out HKr.out) (by rw [HSZ.out]; omega)) (by rw [HSZ.out]; omega)) (by rw [HSZ.out]; omega)⟩

end Ex
end Go.Proofs.YtggodknnfpegmaaDoor
namespace Go.Proofs.YtggodknnfpegmaaDoor
open Go.RowKit
attribute [local go_sem] Oper.semAt_some
namespace Ex

/-- Names and terminals that are reached, in a block. -/
def reachV (A B : Nat) : Array Value := #[.int .u64 (wordAt A 0 : Nat), .int .u64 (wordAt A 1 : Nat), .int .u64 (wordAt B 0 : Nat), .int .u64 (wordAt B 1 : Nat)]
theorem reachV_eq (A B : Nat) : reachV A B = #[.int .u64 (wordAt A 0 : Nat), .int .u64 (wordAt A 1 : Nat), .int .u64 (wordAt B 0 : Nat), .int .u64 (wordAt B 1 : Nat)] := rfl
def RcB (w : World) (d A B : Nat) : Prop := w.heap[d]? = some (.cells (reachV A B) 145 (0, 0))
theorem RcB.cells {w : World} {d A B : Nat} (h : RcB w d A B) : (w.cell? ⟨d, 0, none⟩ = some (.int .u64 (wordAt A 0 : Nat)) ∧ w.cell? ⟨d, 1, none⟩ = some (.int .u64 (wordAt A 1 : Nat)) ∧ w.cell? ⟨d, 2, none⟩ = some (.int .u64 (wordAt B 0 : Nat)) ∧ w.cell? ⟨d, 3, none⟩ = some (.int .u64 (wordAt B 1 : Nat))) ∧ w.frozen? ⟨d, 0, none⟩ = false ∧ w.frozen? ⟨d, 1, none⟩ = false ∧ w.frozen? ⟨d, 2, none⟩ = false ∧ w.frozen? ⟨d, 3, none⟩ = false := by
  unfold RcB at h
  refine ⟨⟨?_, ?_, ?_, ?_⟩, ?_, ?_, ?_, ?_⟩ <;> simp [World.cell?, World.frozen?, h, reachV]
theorem RcB.lt {w : World} {d A B : Nat} (h : RcB w d A B) : d < w.heap.size := (Array.getElem?_eq_some_iff.1 h).1
theorem RcB.keep {w w' : World} {d A B : Nat} (h : RcB w d A B) (hk : Kept w w') : RcB w' d A B := (hk.2.2.2.2 d h.lt).trans h
theorem RcB.but {w w' : World} {d g A B : Nat} (h : RcB w d A B) (hk : KeptBut g w w') (hd : d ≠ g) : RcB w' d A B := (hk.2.2.2.2 d h.lt hd).trans h
theorem RcB.new (w : World) (A B : Nat) : RcB (w.alloc (.cells (reachV A B) 145)) w.heap.size A B := heap_alloc_new w _
theorem RcB.setN {w : World} {d A B : Nat} (h : RcB w d A B) (A' : Nat) : RcB ((w.setCell ⟨d, 0, none⟩ (.int .u64 (wordAt A' 0 : Nat))).setCell ⟨d, 1, none⟩ (.int .u64 (wordAt A' 1 : Nat))) d A' B := by
  unfold RcB at h ⊢
  have hl : d < w.heap.size := (Array.getElem?_eq_some_iff.1 h).1
  have he : w.heap[d] = Obj.cells (reachV A B) 145 (0, 0) := by rw [Array.getElem?_eq_getElem hl] at h; exact Option.some.inj h
  simp [World.setCell, Array.getElem_modify, hl, he, reachV]
theorem RcB.setT {w : World} {d A B : Nat} (h : RcB w d A B) (B' : Nat) : RcB ((w.setCell ⟨d, 2, none⟩ (.int .u64 (wordAt B' 0 : Nat))).setCell ⟨d, 3, none⟩ (.int .u64 (wordAt B' 1 : Nat))) d A B' := by
  unfold RcB at h ⊢
  have hl : d < w.heap.size := (Array.getElem?_eq_some_iff.1 h).1
  have he : w.heap[d] = Obj.cells (reachV A B) 145 (0, 0) := by rw [Array.getElem?_eq_getElem hl] at h; exact Option.some.inj h
  simp [World.setCell, Array.getElem_modify, hl, he, reachV]
/-- A row is taken in. -/
def takeM (nl : Nat) : List SymM → Nat × Nat → Nat × Nat
  | [], s => s
  | x :: r, s => takeM nl r (if x.1 = 3 then (s.1 ||| 2 ^ x.2.toNat, s.2) else (s.1, s.2 ||| 2 ^ termN nl x))
/-- A symbol whose number is small. -/
def SymGood (x : SymM) : Prop := NamesOk x ∧ (x.1 ≠ 3 → x.1 ≠ 2 → 0 ≤ x.2 ∧ x.2 < 128)
/-- A symbol in a box. -/
def XBox (w : World) (b : Nat) (k n : Int) : Prop := w.heap[b]? = some (.cells #[.int .i64 k, .int .i64 n] 68 (0, 0))
theorem XBox.cells {w : World} {b : Nat} {k n : Int} (h : XBox w b k n) : w.cell? ⟨b, 0, none⟩ = some (.int .i64 k) ∧ w.cell? ⟨b, 1, none⟩ = some (.int .i64 n) := by
  unfold XBox at h
  exact ⟨by simp [World.cell?, h], by simp [World.cell?, h]⟩
theorem XBox.lt {w : World} {b : Nat} {k n : Int} (h : XBox w b k n) : b < w.heap.size := (Array.getElem?_eq_some_iff.1 h).1
theorem XBox.keep {w w' : World} {b : Nat} {k n : Int} (h : XBox w b k n) (hk : Kept w w') : XBox w' b k n := (hk.2.2.2.2 b h.lt).trans h
theorem XBox.but {w w' : World} {b d : Nat} {k n : Int} (h : XBox w b k n) (hk : KeptBut d w w') (hd : b ≠ d) : XBox w' b k n := (hk.2.2.2.2 b h.lt hd).trans h
theorem XBox.new (w : World) (k n : Int) : XBox (w.alloc (.cells #[.int .i64 k, .int .i64 n] 68)) w.heap.size k n := heap_alloc_new w _
def TkI (nl : Nat) (row : List SymM) (s0 : Nat × Nat) (d : Nat) (W : World) (vi : Value) (wr : World) : Prop := ∃ j A B : Nat, vi = .int .i64 (j : Int) ∧ j ≤ row.length ∧ Hid (takeM nl row s0 = takeM nl (row.drop j) (A, B)) ∧ Hid (RcB wr d A B) ∧ Hid (KeptBut d W wr)
set_option linter.unusedSimpArgs false in
set_option maxRecDepth 100000 in
set_option maxHeartbeats 8000000 in
theorem sTake_is (d A0 B0 nl : Nat) (al : Option Addr) (cl : Nat) (x1 x3 : Value) (st : Int) (ar : Option Addr) (nr cr : Nat) (row : List SymM) (w0 w : World) (hnl : nl < 128) (hrow : row.length = nr) (hr : RightAt w0 (.slice ar nr cr) row) (hk : Kept w0 w) (hd : w0.heap.size ≤ d) (hA : RcB w d A0 B0) (hg : ∀ x ∈ row, SymGood x) :
    Calls Tryd.prog 104 #[.pointer (some ⟨d, 0, none⟩), .agg #[.slice al nl cl, x1, .int .i64 st, x3], .slice ar nr cr] w fun e w' => e = .returned (.tuple #[]) ∧ RcB w' d (takeM nl row (A0, B0)).1 (takeM nl row (A0, B0)).2 ∧ KeptBut d w w' := by
  have HROW := hide1 hrow
  have HR := hide1 hr
  have HK0 := hide1 hk
  have HD := hide1 hd
  have HG := hide1 hg
  have HNL := hide1 hnl
  obtain ⟨_, _, e1, hc, hn⟩ := hr.len
  simp only [Value.slice.injEq] at e1
  obtain ⟨rfl, en, rfl⟩ := e1
  clear en
  rw [hrow] at hc hn
  have gn : (nr : Int) ≤ 17592186044416 := by omega
  have HK1 : Hid (Kept w (w.alloc (.cells #[.slice al nl cl, x1, .int .i64 st, x3] 26))) := (Kept.refl w).alloc _ _
  have HS := hide1 (SBox.new w (.slice al nl cl) x1 (.int .i64 st) x3)
  have HA := hide1 (hA.keep HK1.out)
  have HGD : Hid (w.heap.size ≠ d) := Nat.ne_of_gt hA.lt
  clear hrow hr hk hd hg hnl hA
  go_enter Tryd.func104, Tryd.ntmps104
  go_upto_region 1 with fail
  obtain ⟨W, hW⟩ : ∃ W, w.alloc (.cells #[.slice al nl cl, x1, .int .i64 st, x3] 26) = W := ⟨_, rfl⟩
  rw [hW] at HK1 HS HA ⊢
  clear hW
  obtain ⟨g, hgb⟩ : ∃ g, w.heap.size = g := ⟨_, rfl⟩
  rw [hgb] at HS HGD ⊢
  clear hgb
  go_wp2_with fail
  go_loopw [10] (TkI nl row (A0, B0) d W) (fun i _ => nr - (intOf i).toNat)
  case atStart => exact ⟨0, A0, B0, rfl, Nat.zero_le _, rfl, HA, but_refl d W⟩
  case round =>
    obtain ⟨j, A, B, rfl, hj, HM, HAr, HKr⟩ := hrel
    rw [HROW.out] at hj
    by_cases hlt : (j : Int) < (nr : Int)
    · obtain ⟨x, hx⟩ : ∃ x, row[j]? = some x := ⟨_, List.getElem?_eq_getElem (by have := HROW.out; omega)⟩
      have HKw := hide1 (KeptBut.up (gtrans HK0.out HK1.out) HD.out HKr.out)
      obtain ⟨cb, ob, cs, ea, hcb, hlen, hcell, hcs⟩ := SliceOf.el (HR.out.keep HKw.out) hx
      have hcs : cs = [.int .i64 x.1, .int .i64 x.2] := hcs
      subst ea hcs
      have k0 := hcell 0 _ rfl
      have k1 := hcell 1 _ rfl
      have k0 : wr.cell? ⟨cb, ob + j * 2, none⟩ = some (.int .i64 x.1) := k0
      have HGX := hide1 (HG.out x (List.mem_of_getElem? hx))
      have gjc : (j : Int) < (cr : Int) := by omega
      have HDR : Hid (takeM nl row (A0, B0) = takeM nl (row.drop (j + 1)) (if x.1 = 3 then (A ||| 2 ^ x.2.toNat, B) else (A, B ||| 2 ^ termN nl x))) := by
        obtain ⟨hj2, e⟩ := List.getElem?_eq_some_iff.1 hx
        show _ = _
        rw [HM.out, List.drop_eq_getElem_cons hj2, e]
        rfl
      obtain ⟨kd, nn⟩ := x
      clear hx hcell
      have HX := hide1 (XBox.new wr kd nn)
      have HK4 : Hid (Kept wr (wr.alloc (.cells #[.int .i64 kd, .int .i64 nn] 68))) := (Kept.refl wr).alloc _ _
      have HXD : Hid (wr.heap.size ≠ d) := Nat.ne_of_gt HAr.out.lt
      go_upto_region 4 with fail
      clear k0 k1
      obtain ⟨W4, hW4⟩ : ∃ W4, wr.alloc (.cells #[.int .i64 kd, .int .i64 nn] 68) = W4 := ⟨_, rfl⟩
      rw [hW4] at HX HK4 ⊢
      clear hW4
      obtain ⟨xb, hxb⟩ : ∃ xb, wr.heap.size = xb := ⟨_, rfl⟩
      rw [hxb] at HX HXD ⊢
      clear hxb
      have HA4 := hide1 (HAr.out.keep HK4.out)
      have HS4 := hide1 ((HS.out.but HKr.out HGD.out).keep HK4.out)
      have t0 := HX.out.cells.1
      by_cases h3 : kd = 3
      · subst h3
        obtain ⟨hn0, hn1⟩ := HGX.out.1 rfl
        obtain ⟨p, rfl⟩ : ∃ p : Nat, nn = (p : Int) := ⟨nn.toNat, by simp only at hn0; omega⟩
        have HP : Hid (p < 128) := by simp only at hn1; show _ < _; omega
        have HD2 : Hid (takeM nl row (A0, B0) = takeM nl (row.drop (j + 1)) (A ||| 2 ^ p, B)) := HDR.out
        clear hn0 hn1 HDR
        go_upto_region 5 with fail
        clear t0
        refine wp_region_held_drew (S := fun X => KeptBut d W4 X) (by kernel_rfl) (but_refl d W4) (fun hHeld => ?_)
        refine wpAnyH_take (i := 0) (v := .pointer (some ⟨d, 0, none⟩)) rfl (by kernel_rfl) (by kernel_rfl) (by kernel_rfl) (fun _ _ _ h => h) (Or.inl ⟨by rfl, fun w' hSw => ?_⟩) (by with_reducible assumption) ?_
        · clear hSw
          go_simp
        try simp only [Act.put, List.setIfInBounds_toArray, List.set_cons_zero, List.set_cons_succ]
        refine wpAnyH_take (i := 1) (v := .pointer (some ⟨d, 0, none⟩)) rfl (by kernel_rfl) (by kernel_rfl) (by kernel_rfl) (fun _ _ _ h => h) (Or.inl ⟨by rfl, fun w' hSw => ?_⟩) (by with_reducible assumption) ?_
        · clear hSw
          go_simp
        try simp only [Act.put, List.setIfInBounds_toArray, List.set_cons_zero, List.set_cons_succ]
        refine wpAnyH_take (i := 2) (v := .pointer (some ⟨d, 0, none⟩)) rfl (by kernel_rfl) (by kernel_rfl) (by kernel_rfl) (fun _ _ _ h => h) (Or.inl ⟨by rfl, fun w' hSw => ?_⟩) (by with_reducible assumption) ?_
        · clear hSw
          go_simp
        try simp only [Act.put, List.setIfInBounds_toArray, List.set_cons_zero, List.set_cons_succ]
        refine wpAnyH_take (i := 3) (v := .pointer (some ⟨d, 0, none⟩)) rfl (by kernel_rfl) (by kernel_rfl) (by kernel_rfl) (fun _ _ _ h => h) (Or.inl ⟨by rfl, fun w' hSw => ?_⟩) (by with_reducible assumption) ?_
        · clear hSw
          go_simp
        try simp only [Act.put, List.setIfInBounds_toArray, List.set_cons_zero, List.set_cons_succ]
        refine wpAnyH_take (i := 5) (v := .pointer (some ⟨xb, 1, none⟩)) rfl (by kernel_rfl) (by kernel_rfl) (by kernel_rfl) (fun _ _ _ h => h) (Or.inl ⟨by rfl, fun w' hSw => ?_⟩) (by with_reducible assumption) ?_
        · clear hSw
          go_simp
        try simp only [Act.put, List.setIfInBounds_toArray, List.set_cons_zero, List.set_cons_succ]
        refine wpAnyH_take (i := 6) (v := .int .i64 (p : Int)) rfl (by kernel_rfl) (by kernel_rfl) (by kernel_rfl) (fun _ _ _ h => h) (Or.inl ⟨by rfl, fun w' hSw => ?_⟩) (by with_reducible assumption) ?_
        · have s0 := (XBox.but HX.out hSw HXD.out).cells.2
          clear hSw
          go_simp
        try simp only [Act.put, List.setIfInBounds_toArray, List.set_cons_zero, List.set_cons_succ]
        refine wpAnyH_ready (rs := [4]) (by kernel_rfl) (by simp) ?_
        refine AllReadyH.cons (i := 4) rfl (fun K hK => ?_) AllReadyH.nil
        have a0 : W4.drew.cell? ⟨d, 0, none⟩ = some (.int .u64 (wordAt A 0 : Nat)) := HA4.out.cells.1.1
        have a1 : W4.drew.cell? ⟨d, 1, none⟩ = some (.int .u64 (wordAt A 1 : Nat)) := HA4.out.cells.1.2.1
        go_simp
        clear a0 a1
        refine hK.out _ _ hHeld (fun hHeld2 => ?_)
        clear hK K hHeld
        have hHeld := hHeld2
        clear hHeld2
        try simp only [Act.put, List.setIfInBounds_toArray, List.set_cons_zero, List.set_cons_succ]
        refine wpAnyH_ready (rs := [7]) (by kernel_rfl) (by simp) ?_
        refine AllReadyH.cons (i := 7) rfl (fun K hK => ?_) AllReadyH.nil
        go_simp
        go_wp2_with (go_at_call 72; refine (sWith_is A p HP.out _).mono ?_; rintro e w7 ⟨rfl, hk7⟩; rw [setS_eq]; have HK7 := hide1 (gtrans (drew_kept W4) hk7); clear hk7)
        refine hK.out _ _ (HK7.out.but d) (fun hHeld2 => ?_)
        clear hK K hHeld
        have hHeld := hHeld2
        clear hHeld2
        try simp only [Act.put, List.setIfInBounds_toArray, List.set_cons_zero, List.set_cons_succ]
        refine wpAnyH_take (i := 8) (v := .pointer (some ⟨d, 0, none⟩)) rfl (by kernel_rfl) (by kernel_rfl) (by kernel_rfl) (fun _ _ _ h => h) (Or.inl ⟨by rfl, fun w' hSw => ?_⟩) (by with_reducible assumption) ?_
        · clear hSw
          go_simp
        try simp only [Act.put, List.setIfInBounds_toArray, List.set_cons_zero, List.set_cons_succ]
        refine wpAnyH_take (i := 9) (v := .pointer (some ⟨d, 0, none⟩)) rfl (by kernel_rfl) (by kernel_rfl) (by kernel_rfl) (fun _ _ _ h => h) (Or.inl ⟨by rfl, fun w' hSw => ?_⟩) (by with_reducible assumption) ?_
        · clear hSw
          go_simp
        try simp only [Act.put, List.setIfInBounds_toArray, List.set_cons_zero, List.set_cons_succ]
        refine wpAnyH_ready (rs := [10]) (by kernel_rfl) (by simp) ?_
        refine AllReadyH.cons (i := 10) rfl (fun K hK => ?_) AllReadyH.nil
        have HA7 := hide1 (HA4.out.keep HK7.out)
        obtain ⟨⟨a0, a1, a2, a3⟩, z0, z1, z2, z3⟩ := HA7.out.cells
        go_simp
        clear a0 a1 a2 a3 z0 z1 z2 z3
        have HA8 := hide1 (HA7.out.setN (A ||| 2 ^ p))
        have HK8 : Hid (KeptBut d W4 ((w7.setCell ⟨d, 0, none⟩ (.int .u64 (wordAt (A ||| 2 ^ p) 0 : Nat))).setCell ⟨d, 1, none⟩ (.int .u64 (wordAt (A ||| 2 ^ p) 1 : Nat)))) := but_set (but_set (HK7.out.but d) _ _) _ _
        refine hK.out _ _ HK8.out (fun hHeld2 => ?_)
        clear hK K hHeld
        have hHeld := hHeld2
        clear hHeld2
        try simp only [Act.put, List.setIfInBounds_toArray, List.set_cons_zero, List.set_cons_succ]
        refine wpAnyH_done (by kernel_rfl) ?_ _
        clear hHeld
        go_wp2_with fail
        go_roundw
        case rel => exact ⟨j + 1, _, _, by go_num, by rw [HROW.out]; omega, HD2, HA8, HKr.out.trans ((HK4.out.but d).trans HK8.out)⟩
        case measure => simp [intOf]; omega
      · obtain ⟨q, hq⟩ : ∃ q, termN nl (kd, nn) = q := ⟨_, rfl⟩
        have HQ8 : Hid (q < 128 ∧ termP nl (kd, nn) = (q : Int)) := by
          have h1 := HGX.out.2 h3
          have h2 := HNL.out
          show _ ∧ _
          unfold termN at hq
          unfold termP
          by_cases e2 : kd = 2
          · rw [if_pos (show (kd, nn).1 = 2 from e2)] at hq ⊢
            omega
          · rw [if_neg (show ¬ (kd, nn).1 = 2 from e2)] at hq ⊢
            obtain ⟨a1, a2⟩ := h1 e2
            simp only at a1 a2 hq ⊢
            omega
        have HD2 : Hid (takeM nl row (A0, B0) = takeM nl (row.drop (j + 1)) (A, B ||| 2 ^ q)) := by
          show _ = _
          rw [HDR.out, if_neg (show ¬ (kd, nn).1 = 3 from h3), hq]
        have hb3 : (kd == 3) = false := by simpa using h3
        clear h3 hq HDR
        go_upto_region 6 with fail
        clear t0
        refine wp_region_held_drew (S := fun X => KeptBut d W4 X) (by kernel_rfl) (but_refl d W4) (fun hHeld => ?_)
        refine wpAnyH_take (i := 0) (v := .pointer (some ⟨d, 0, none⟩)) rfl (by kernel_rfl) (by kernel_rfl) (by kernel_rfl) (fun _ _ _ h => h) (Or.inl ⟨by rfl, fun w' hSw => ?_⟩) (by with_reducible assumption) ?_
        · clear hSw
          go_simp
        try simp only [Act.put, List.setIfInBounds_toArray, List.set_cons_zero, List.set_cons_succ]
        refine wpAnyH_take (i := 1) (v := .pointer (some ⟨d, 0, none⟩)) rfl (by kernel_rfl) (by kernel_rfl) (by kernel_rfl) (fun _ _ _ h => h) (Or.inl ⟨by rfl, fun w' hSw => ?_⟩) (by with_reducible assumption) ?_
        · clear hSw
          go_simp
        try simp only [Act.put, List.setIfInBounds_toArray, List.set_cons_zero, List.set_cons_succ]
        refine wpAnyH_take (i := 2) (v := .pointer (some ⟨d, 0, none⟩)) rfl (by kernel_rfl) (by kernel_rfl) (by kernel_rfl) (fun _ _ _ h => h) (Or.inl ⟨by rfl, fun w' hSw => ?_⟩) (by with_reducible assumption) ?_
        · clear hSw
          go_simp
        try simp only [Act.put, List.setIfInBounds_toArray, List.set_cons_zero, List.set_cons_succ]
        refine wpAnyH_take (i := 3) (v := .pointer (some ⟨d, 2, none⟩)) rfl (by kernel_rfl) (by kernel_rfl) (by kernel_rfl) (fun _ _ _ h => h) (Or.inl ⟨by rfl, fun w' hSw => ?_⟩) (by with_reducible assumption) ?_
        · clear hSw
          go_simp
        try simp only [Act.put, List.setIfInBounds_toArray, List.set_cons_zero, List.set_cons_succ]
        refine wpAnyH_take (i := 5) (v := .agg #[.slice al nl cl, x1, .int .i64 st, x3]) rfl (by kernel_rfl) (by kernel_rfl) (by kernel_rfl) (fun _ _ _ h => h) (Or.inl ⟨by rfl, fun w' hSw => ?_⟩) (by with_reducible assumption) ?_
        · obtain ⟨s0, s1, s2, s3⟩ := (HS4.out.but hSw HGD.out).facts
          clear hSw
          go_simp
        try simp only [Act.put, List.setIfInBounds_toArray, List.set_cons_zero, List.set_cons_succ]
        refine wpAnyH_take (i := 6) (v := .agg #[.int .i64 kd, .int .i64 nn]) rfl (by kernel_rfl) (by kernel_rfl) (by kernel_rfl) (fun _ _ _ h => h) (Or.inl ⟨by rfl, fun w' hSw => ?_⟩) (by with_reducible assumption) ?_
        · obtain ⟨s0, s1⟩ := (HX.out.but hSw HXD.out).cells
          clear hSw
          go_simp
        try simp only [Act.put, List.setIfInBounds_toArray, List.set_cons_zero, List.set_cons_succ]
        refine wpAnyH_ready (rs := [4, 7]) (by kernel_rfl) (by simp) ?_
        refine AllReadyH.cons (i := 4) rfl (fun K hK => ?_) (AllReadyH.cons (i := 7) rfl (fun K hK => ?_) AllReadyH.nil)
        · have a2 : W4.drew.cell? ⟨d, 2, none⟩ = some (.int .u64 (wordAt B 0 : Nat)) := HA4.out.cells.1.2.2.1
          have a3 : W4.drew.cell? ⟨d, 3, none⟩ = some (.int .u64 (wordAt B 1 : Nat)) := HA4.out.cells.1.2.2.2
          go_simp
          clear a2 a3
          refine hK.out _ _ hHeld (fun hHeld2 => ?_)
          clear hK K hHeld
          have hHeld := hHeld2
          clear hHeld2
          try simp only [Act.put, List.setIfInBounds_toArray, List.set_cons_zero, List.set_cons_succ]
          refine wpAnyH_ready (rs := [7]) (by kernel_rfl) (by simp) ?_
          refine AllReadyH.cons (i := 7) rfl (fun K hK => ?_) AllReadyH.nil
          go_simp
          go_wp2_with (go_at_call 76; refine (terminal_is al nl cl (by have := HNL.out; omega) x1 x3 st kd nn _).mono ?_; rintro e w6 ⟨rfl, hk6⟩; rw [HQ8.out.2]; have HK6 := hide1 (gtrans (drew_kept W4) hk6); clear hk6)
          refine hK.out _ _ (HK6.out.but d) (fun hHeld2 => ?_)
          clear hK K hHeld
          have hHeld := hHeld2
          clear hHeld2
          try simp only [Act.put, List.setIfInBounds_toArray, List.set_cons_zero, List.set_cons_succ]
          refine wpAnyH_ready (rs := [8]) (by kernel_rfl) (by simp) ?_
          refine AllReadyH.cons (i := 8) rfl (fun K hK => ?_) AllReadyH.nil
          go_simp
          go_wp2_with (go_at_call 72; refine (sWith_is B q HQ8.out.1 _).mono ?_; rintro e w7 ⟨rfl, hk7⟩; rw [setS_eq]; have HK7 := hide1 (gtrans HK6.out hk7); clear hk7)
          refine hK.out _ _ (HK7.out.but d) (fun hHeld2 => ?_)
          clear hK K hHeld
          have hHeld := hHeld2
          clear hHeld2
          try simp only [Act.put, List.setIfInBounds_toArray, List.set_cons_zero, List.set_cons_succ]
          refine wpAnyH_take (i := 9) (v := .pointer (some ⟨d, 0, none⟩)) rfl (by kernel_rfl) (by kernel_rfl) (by kernel_rfl) (fun _ _ _ h => h) (Or.inl ⟨by rfl, fun w' hSw => ?_⟩) (by with_reducible assumption) ?_
          · clear hSw
            go_simp
          try simp only [Act.put, List.setIfInBounds_toArray, List.set_cons_zero, List.set_cons_succ]
          refine wpAnyH_take (i := 10) (v := .pointer (some ⟨d, 2, none⟩)) rfl (by kernel_rfl) (by kernel_rfl) (by kernel_rfl) (fun _ _ _ h => h) (Or.inl ⟨by rfl, fun w' hSw => ?_⟩) (by with_reducible assumption) ?_
          · clear hSw
            go_simp
          try simp only [Act.put, List.setIfInBounds_toArray, List.set_cons_zero, List.set_cons_succ]
          refine wpAnyH_ready (rs := [11]) (by kernel_rfl) (by simp) ?_
          refine AllReadyH.cons (i := 11) rfl (fun K hK => ?_) AllReadyH.nil
          have HA7 := hide1 (HA4.out.keep HK7.out)
          obtain ⟨⟨a0, a1, a2, a3⟩, z0, z1, z2, z3⟩ := HA7.out.cells
          go_simp
          clear a0 a1 a2 a3 z0 z1 z2 z3
          have HA8 := hide1 (HA7.out.setT (B ||| 2 ^ q))
          have HK8 : Hid (KeptBut d W4 ((w7.setCell ⟨d, 2, none⟩ (.int .u64 (wordAt (B ||| 2 ^ q) 0 : Nat))).setCell ⟨d, 3, none⟩ (.int .u64 (wordAt (B ||| 2 ^ q) 1 : Nat)))) := but_set (but_set (HK7.out.but d) _ _) _ _
          refine hK.out _ _ HK8.out (fun hHeld2 => ?_)
          clear hK K hHeld
          have hHeld := hHeld2
          clear hHeld2
          try simp only [Act.put, List.setIfInBounds_toArray, List.set_cons_zero, List.set_cons_succ]
          refine wpAnyH_done (by kernel_rfl) ?_ _
          clear hHeld
          go_wp2_with fail
          go_roundw
          case rel => exact ⟨j + 1, _, _, by go_num, by rw [HROW.out]; omega, HD2, HA8, HKr.out.trans ((HK4.out.but d).trans HK8.out)⟩
          case measure => simp [intOf]; omega
        · go_simp
          go_wp2_with (go_at_call 76; refine (terminal_is al nl cl (by have := HNL.out; omega) x1 x3 st kd nn _).mono ?_; rintro e w6 ⟨rfl, hk6⟩; rw [HQ8.out.2]; have HK6 := hide1 (gtrans (drew_kept W4) hk6); clear hk6)
          refine hK.out _ _ (HK6.out.but d) (fun hHeld2 => ?_)
          clear hK K hHeld
          have hHeld := hHeld2
          clear hHeld2
          try simp only [Act.put, List.setIfInBounds_toArray, List.set_cons_zero, List.set_cons_succ]
          refine wpAnyH_ready (rs := [4]) (by kernel_rfl) (by simp) ?_
          refine AllReadyH.cons (i := 4) rfl (fun K hK => ?_) AllReadyH.nil
          have a2 : w6.cell? ⟨d, 2, none⟩ = some (.int .u64 (wordAt B 0 : Nat)) := (HA4.out.keep HK6.out).cells.1.2.2.1
          have a3 : w6.cell? ⟨d, 3, none⟩ = some (.int .u64 (wordAt B 1 : Nat)) := (HA4.out.keep HK6.out).cells.1.2.2.2
          go_simp
          clear a2 a3
          refine hK.out _ _ hHeld (fun hHeld2 => ?_)
          clear hK K hHeld
          have hHeld := hHeld2
          clear hHeld2
          try simp only [Act.put, List.setIfInBounds_toArray, List.set_cons_zero, List.set_cons_succ]
          refine wpAnyH_ready (rs := [8]) (by kernel_rfl) (by simp) ?_
          refine AllReadyH.cons (i := 8) rfl (fun K hK => ?_) AllReadyH.nil
          go_simp
          go_wp2_with (go_at_call 72; refine (sWith_is B q HQ8.out.1 _).mono ?_; rintro e w7 ⟨rfl, hk7⟩; rw [setS_eq]; have HK7 := hide1 (gtrans HK6.out hk7); clear hk7)
          refine hK.out _ _ (HK7.out.but d) (fun hHeld2 => ?_)
          clear hK K hHeld
          have hHeld := hHeld2
          clear hHeld2
          try simp only [Act.put, List.setIfInBounds_toArray, List.set_cons_zero, List.set_cons_succ]
          refine wpAnyH_take (i := 9) (v := .pointer (some ⟨d, 0, none⟩)) rfl (by kernel_rfl) (by kernel_rfl) (by kernel_rfl) (fun _ _ _ h => h) (Or.inl ⟨by rfl, fun w' hSw => ?_⟩) (by with_reducible assumption) ?_
          · clear hSw
            go_simp
          try simp only [Act.put, List.setIfInBounds_toArray, List.set_cons_zero, List.set_cons_succ]
          refine wpAnyH_take (i := 10) (v := .pointer (some ⟨d, 2, none⟩)) rfl (by kernel_rfl) (by kernel_rfl) (by kernel_rfl) (fun _ _ _ h => h) (Or.inl ⟨by rfl, fun w' hSw => ?_⟩) (by with_reducible assumption) ?_
          · clear hSw
            go_simp
          try simp only [Act.put, List.setIfInBounds_toArray, List.set_cons_zero, List.set_cons_succ]
          refine wpAnyH_ready (rs := [11]) (by kernel_rfl) (by simp) ?_
          refine AllReadyH.cons (i := 11) rfl (fun K hK => ?_) AllReadyH.nil
          have HA7 := hide1 (HA4.out.keep HK7.out)
          obtain ⟨⟨a0, a1, a2, a3⟩, z0, z1, z2, z3⟩ := HA7.out.cells
          go_simp
          clear a0 a1 a2 a3 z0 z1 z2 z3
          have HA8 := hide1 (HA7.out.setT (B ||| 2 ^ q))
          have HK8 : Hid (KeptBut d W4 ((w7.setCell ⟨d, 2, none⟩ (.int .u64 (wordAt (B ||| 2 ^ q) 0 : Nat))).setCell ⟨d, 3, none⟩ (.int .u64 (wordAt (B ||| 2 ^ q) 1 : Nat)))) := but_set (but_set (HK7.out.but d) _ _) _ _
          refine hK.out _ _ HK8.out (fun hHeld2 => ?_)
          clear hK K hHeld
          have hHeld := hHeld2
          clear hHeld2
          try simp only [Act.put, List.setIfInBounds_toArray, List.set_cons_zero, List.set_cons_succ]
          refine wpAnyH_done (by kernel_rfl) ?_ _
          clear hHeld
          go_wp2_with fail
          go_roundw
          case rel => exact ⟨j + 1, _, _, by go_num, by rw [HROW.out]; omega, HD2, HA8, HKr.out.trans ((HK4.out.but d).trans HK8.out)⟩
          case measure => simp [intOf]; omega
    · have hjn : j = row.length := by have := HROW.out; omega
      have HD2 : Hid (takeM nl row (A0, B0) = (A, B)) := by
        show _ = _
        rw [HM.out, List.drop_of_length_le (by omega)]
        rfl
      go_wp2_with fail
      go_end0
      exact ⟨rfl, by rw [HD2.out]; exact HAr.out, (HK1.out.but d).trans HKr.out⟩

end Ex
end Go.Proofs.YtggodknnfpegmaaDoor
namespace Go.Proofs.YtggodknnfpegmaaDoor
open Go.RowKit
namespace Ex

theorem takeM_up (nl : Nat) : ∀ (r : List SymM) (A B : Nat), (∀ n, A.testBit n = true → (takeM nl r (A, B)).1.testBit n = true) ∧ (∀ n, B.testBit n = true → (takeM nl r (A, B)).2.testBit n = true)
  | [], _, _ => ⟨fun _ h => h, fun _ h => h⟩
  | x :: r, A, B => by
    show (∀ n, _ → (takeM nl r (if x.1 = 3 then _ else _)).1.testBit n = true) ∧ _
    by_cases h3 : x.1 = 3
    · have e : takeM nl (x :: r) (A, B) = takeM nl r (A ||| 2 ^ x.2.toNat, B) := by show takeM nl r (if x.1 = 3 then _ else _) = _; rw [if_pos h3]
      rw [if_pos h3, e]
      have ih := takeM_up nl r (A ||| 2 ^ x.2.toNat) B
      exact ⟨fun n hn => ih.1 n ((testBit_with A _ n).2 (.inl hn)), ih.2⟩
    · have e : takeM nl (x :: r) (A, B) = takeM nl r (A, B ||| 2 ^ termN nl x) := by show takeM nl r (if x.1 = 3 then _ else _) = _; rw [if_neg h3]
      rw [if_neg h3, e]
      have ih := takeM_up nl r A (B ||| 2 ^ termN nl x)
      exact ⟨ih.1, fun n hn => ih.2 n ((testBit_with B _ n).2 (.inl hn))⟩
theorem term_lt {nl : Nat} (hnl : nl < 128) {x : SymM} (hx : SymGood x) (h3 : x.1 ≠ 3) : termN nl x < 128 := by
  unfold termN
  by_cases e2 : x.1 = 2
  · rw [if_pos e2]; exact hnl
  · rw [if_neg e2]
    have := hx.2 h3 e2
    omega
/-- A step over the first j productions: from (A, B) to (A1, B1). -/
structure RcS (ps : List ProdM) (nl st A B A1 B1 j m : Nat) : Prop where
  step : RcStep ps nl st A A1 B1 j m
  up : ∀ n, B.testBit n = true → B1.testBit n = true
  bound : B < 2 ^ 128 → B1 < 2 ^ 128
  terms : (∀ n, A.testBit n = true → Rc ps st n) → TSound ps nl st B → TSound ps nl st B1
theorem RcS.start (ps : List ProdM) (nl st A B : Nat) : RcS ps nl st A B A B 0 0 := ⟨RcStep.start ps nl st A B, fun _ h => h, fun h => h, fun _ h => h⟩
theorem RcS.row {ps : List ProdM} {nl st A B : Nat} {p : ProdM} (hnl : nl < 128) (hg : ∀ x ∈ p.2, SymGood x) {j : Nat} (hp : ps[j]? = some p) : ∀ (k m A1 B1 : Nat), p.2.length - m = k → m ≤ p.2.length → RcS ps nl st A B A1 B1 j m → A1.testBit p.1.toNat = true → RcS ps nl st A B (takeM nl (p.2.drop m) (A1, B1)).1 (takeM nl (p.2.drop m) (A1, B1)).2 j p.2.length
  | 0, m, A1, B1, hk, hm, h, _ => by
    have e : m = p.2.length := by omega
    rw [List.drop_of_length_le (by omega)]
    exact e ▸ h
  | k + 1, m, A1, B1, hk, hm, h, hl => by
    have hlt : m < p.2.length := by omega
    obtain ⟨x, hx⟩ : ∃ x, p.2[m]? = some x := ⟨_, List.getElem?_eq_getElem hlt⟩
    have hxm := List.mem_of_getElem? hx
    have ed : p.2.drop m = x :: p.2.drop (m + 1) := by
      obtain ⟨h2, e⟩ := List.getElem?_eq_some_iff.1 hx
      rw [List.drop_eq_getElem_cons h2, e]
    rw [ed]
    by_cases h3 : x.1 = 3
    · have e : takeM nl (x :: p.2.drop (m + 1)) (A1, B1) = takeM nl (p.2.drop (m + 1)) (A1 ||| 2 ^ x.2.toNat, B1) := by show takeM nl _ (if x.1 = 3 then _ else _) = _; rw [if_pos h3]
      rw [e]
      have hn := (hg x hxm).1 h3
      exact RcS.row hnl hg hp k (m + 1) _ _ (by omega) (by omega) ⟨h.step.name hp hl hx h3 (by omega), h.up, h.bound, h.terms⟩ ((testBit_with A1 _ _).2 (.inl hl))
    · have e : takeM nl (x :: p.2.drop (m + 1)) (A1, B1) = takeM nl (p.2.drop (m + 1)) (A1, B1 ||| 2 ^ termN nl x) := by show takeM nl _ (if x.1 = 3 then _ else _) = _; rw [if_neg h3]
      rw [e]
      exact RcS.row hnl hg hp k (m + 1) _ _ (by omega) (by omega) ⟨h.step.term hp hx h3, fun n hn => (testBit_with B1 _ n).2 (.inl (h.up n hn)), fun hb => Nat.or_lt_two_pow (h.bound hb) (Nat.pow_lt_pow_right (by decide) (term_lt hnl (hg x hxm) h3)), fun hs ht => (h.terms hs ht).put (List.mem_of_getElem? hp) (h.step.sound hs _ hl) hxm h3⟩ hl
/-- A production that counts. -/
theorem RcS.put {ps : List ProdM} {nl st A B A1 B1 j : Nat} {p : ProdM} (h : RcS ps nl st A B A1 B1 j 0) (hnl : nl < 128) (hg : ∀ x ∈ p.2, SymGood x) (hp : ps[j]? = some p) (hl : A1.testBit p.1.toNat = true) : RcS ps nl st A B (takeM nl p.2 (A1, B1)).1 (takeM nl p.2 (A1, B1)).2 (j + 1) 0 := by
  have := RcS.row hnl hg hp _ 0 A1 B1 rfl (Nat.zero_le _) h hl
  exact ⟨this.step.next hp rfl, this.up, this.bound, this.terms⟩
theorem RcS.skip {ps : List ProdM} {nl st A B A1 B1 j : Nat} {p : ProdM} (h : RcS ps nl st A B A1 B1 j 0) (hp : ps[j]? = some p) (hl : A1.testBit p.1.toNat = false) : RcS ps nl st A B A1 B1 (j + 1) 0 := ⟨h.step.skip hp hl, h.up, h.bound, h.terms⟩
set_option maxRecDepth 100000 in
/-- Two structs of two sets each. -/
theorem neq_reach {A B A1 B1 : Nat} (hA : A < 2 ^ 128) (hB : B < 2 ^ 128) (hA1 : A1 < 2 ^ 128) (hB1 : B1 < 2 ^ 128) (w : World) : (binOp .neq 145 (.agg #[.int .u64 (wordAt A 0 : Nat), .int .u64 (wordAt A 1 : Nat), .int .u64 (wordAt B 0 : Nat), .int .u64 (wordAt B 1 : Nat)]) (.agg #[.int .u64 (wordAt A1 0 : Nat), .int .u64 (wordAt A1 1 : Nat), .int .u64 (wordAt B1 0 : Nat), .int .u64 (wordAt B1 1 : Nat)])).run Tryd.prog w = .ok (.bool (!(A == A1 && B == B1))) w := by
  have ht : Tryd.prog.underlying 145 = some (.struct (Tryd.prog.fieldsOf 145)) := by kernel_rfl
  have hp : Tryd.prog.stoodInHeld 145 = false := by kernel_rfl
  have hf : ((Tryd.prog.fieldsOf 145).toList.map fun f => (f.name, f.type, f.offset)) = [("names", 85, 0), ("terminals", 85, 2)] := by kernel_rfl
  rw [run_neq_struct, run_equalIn_struct w 9999 _ _ _ ht hp]
  obtain ⟨fs, hfs⟩ : ∃ fs, (Tryd.prog.fieldsOf 145).toList = fs := ⟨_, rfl⟩
  rw [hfs] at hf ⊢
  match fs, hf with
  | [f0, f1], hf =>
    simp only [List.map_cons, List.map_nil, List.cons.injEq, Prod.mk.injEq, and_true] at hf
    obtain ⟨⟨n0, t0, o0⟩, n1, t1, o1⟩ := hf
    have hpart0 : ∀ (a b c d : Value) (w : World), (part 85 #[a, b, c, d] 0).run Tryd.prog w = .ok (.agg #[a, b]) w := by
      intro a b c d w
      go_simp
    have hpart2 : ∀ (a b c d : Value) (w : World), (part 85 #[a, b, c, d] 2).run Tryd.prog w = .ok (.agg #[c, d]) w := by
      intro a b c d w
      go_simp
    simp only [Op.eqFields, n0, t0, o0, n1, t1, o1, Sem.run_bind, Sem.run_ite, hpart0, hpart2, Result.andThen_ok, eq_words w 9997, words_b hA hA1, words_b hB hB1]
    cases h1 : (A == A1) <;> cases h2 : (B == B1) <;> simp

end Ex
end Go.Proofs.YtggodknnfpegmaaDoor
namespace Go.Proofs.YtggodknnfpegmaaDoor
open Go.RowKit
attribute [local go_sem] Oper.semAt_some
namespace Ex

def ProdGood (p : ProdM) : Prop := (0 ≤ p.1 ∧ p.1 < 128) ∧ ∀ x ∈ p.2, SymGood x
def RcI (ps : List ProdM) (nl st A B d : Nat) (W : World) (vi : Value) (wr : World) : Prop := ∃ j A1 B1 : Nat, vi = .int .i64 (j : Int) ∧ j ≤ ps.length ∧ Hid (RcS ps nl st A B A1 B1 j 0) ∧ Hid (RcB wr d A1 B1) ∧ Hid (KeptBut d W wr)
/-- What a step of reach answers. -/
def RcR (ps : List ProdM) (nl st A B d : Nat) (w : World) (e : Ending) (w' : World) : Prop := ∃ A1 B1, RcS ps nl st A B A1 B1 ps.length 0 ∧ e = .returned (.bool (!(A1 == A && B1 == B))) ∧ RcB w' d A1 B1 ∧ KeptBut d w w'
set_option linter.unusedSimpArgs false in
set_option maxRecDepth 100000 in
set_option maxHeartbeats 8000000 in
theorem rcStep_is (d g A B nl st : Nat) (ps : List ProdM) (al : Option Addr) (cl : Nat) (x1 : Value) (sv : Int) (ap : Option Addr) (np cp : Nat) (w0 w : World) (hnl : nl < 128) (hps : ps.length = np) (hA : RcB w d A B) (hA8 : A < 2 ^ 128) (hB8 : B < 2 ^ 128) (hg : SBox w g (.slice al nl cl) x1 (.int .i64 sv) (.slice ap np cp)) (hp : ProdsAt w0 (.slice ap np cp) ps) (hk : Kept w0 w) (hd : w0.heap.size ≤ d) (hgd : g ≠ d) (hok : ∀ p ∈ ps, ProdGood p) :
    Calls Tryd.prog 103 #[.pointer (some ⟨d, 0, none⟩), .pointer (some ⟨g, 0, none⟩)] w (RcR ps nl st A B d w) := by
  have HPS := hide1 hps
  have HA8 := hide1 hA8
  have HB8 := hide1 hB8
  have HP := hide1 hp
  have HK0 := hide1 hk
  have HD := hide1 hd
  have HGD := hide1 hgd
  have HOK := hide1 hok
  have HNL := hide1 hnl
  have HA := hide1 hA
  have HG := hide1 hg
  obtain ⟨_, _, e1, hc, hn⟩ := hp.len
  simp only [Value.slice.injEq] at e1
  obtain ⟨rfl, en, rfl⟩ := e1
  clear en
  rw [hps] at hc hn
  have gn : (np : Int) ≤ 17592186044416 := by omega
  obtain ⟨⟨a0, a1, a2, a3⟩, _⟩ := hA.cells
  clear hps hA hA8 hB8 hg hp hk hd hgd hok hnl
  go_enter Tryd.func103, Tryd.ntmps103
  go_upto_region 2 with fail
  clear a0 a1 a2 a3
  have HK1 : Hid (Kept w (w.alloc (.cells (reachV A B) 145))) := (Kept.refl w).alloc _ _
  have HO := hide1 (RcB.new w A B)
  have HOD : Hid (w.heap.size ≠ d) := Nat.ne_of_gt HA.out.lt
  rw [reachV_eq] at HK1 HO
  obtain ⟨W, hW⟩ : ∃ W, w.alloc (.cells #[.int .u64 (wordAt A 0 : Nat), .int .u64 (wordAt A 1 : Nat), .int .u64 (wordAt B 0 : Nat), .int .u64 (wordAt B 1 : Nat)] 145) = W := ⟨_, rfl⟩
  rw [hW] at HK1 HO ⊢
  clear hW
  obtain ⟨ob, hob⟩ : ∃ ob, w.heap.size = ob := ⟨_, rfl⟩
  rw [hob] at HO HOD ⊢
  clear hob
  have HA2 := hide1 (HA.out.keep HK1.out)
  have HG2 := hide1 (HG.out.keep HK1.out)
  obtain ⟨s0, s1, s2, s3⟩ := HG2.out.facts
  go_wp2_with fail
  clear s0 s1 s2 s3
  go_loopw [13] (RcI ps nl st A B d W) (fun i _ => np - (intOf i).toNat)
  case atStart => exact ⟨0, A, B, rfl, Nat.zero_le _, RcS.start ps nl st A B, HA2, but_refl d W⟩
  case round =>
    obtain ⟨j, A1, B1, rfl, hj, HM, HSr, HKr⟩ := hrel
    rw [HPS.out] at hj
    by_cases hlt : (j : Int) < (np : Int)
    · obtain ⟨p, hp⟩ : ∃ p, ps[j]? = some p := ⟨_, List.getElem?_eq_getElem (by have := HPS.out; omega)⟩
      have HKw := hide1 (KeptBut.up (gtrans HK0.out HK1.out) HD.out HKr.out)
      obtain ⟨cb, o2, cs, ea, hcb, hlen, hcell, v', hcs, hrt⟩ := SliceOf.el HP.out hp
      subst ea hcs
      have k0 := grown_cell HKw.out (hcell 0 _ rfl)
      have k1 := grown_cell HKw.out (hcell 1 _ rfl)
      have k0 : wr.cell? ⟨cb, o2 + j * 2, none⟩ = some (.int .i64 p.1) := k0
      have gjc : (j : Int) < (cp : Int) := by omega
      have HOKp := hide1 (HOK.out p (List.mem_of_getElem? hp))
      have HPJ := hide1 hp
      obtain ⟨ar, cr, rfl, hcr, hnr⟩ := hrt.len
      obtain ⟨nr, hnr2⟩ : ∃ nr, p.2.length = nr := ⟨_, rfl⟩
      rw [hnr2] at hrt hcr hnr k1
      have HNR := hide1 hnr2
      have HRT := hide1 hrt
      obtain ⟨l, hl⟩ : ∃ l : Nat, p.1 = (l : Int) := ⟨p.1.toNat, by have := HOKp.out.1.1; omega⟩
      have HLE : Hid (p.1.toNat = l) := by show _ = _; omega
      have HL : Hid (l < 128) := by have := HOKp.out.1; show _ < _; omega
      rw [hl] at k0
      clear hp hcell hrt hnr2 hl
      have HPB := hide1 (PBox.new wr (.int .i64 (l : Int)) (.slice ar nr cr))
      have HK4 : Hid (Kept wr (wr.alloc (.cells #[.int .i64 (l : Int), .slice ar nr cr] 40))) := (Kept.refl wr).alloc _ _
      have HPBD : Hid (wr.heap.size ≠ d) := Nat.ne_of_gt HSr.out.lt
      go_upto_region 5 with fail
      clear k0 k1
      obtain ⟨W4, hW4⟩ : ∃ W4, wr.alloc (.cells #[.int .i64 (l : Int), .slice ar nr cr] 40) = W4 := ⟨_, rfl⟩
      rw [hW4] at HPB HK4 ⊢
      clear hW4
      obtain ⟨pb, hpb⟩ : ∃ pb, wr.heap.size = pb := ⟨_, rfl⟩
      rw [hpb] at HPB HPBD ⊢
      clear hpb
      have HS4 := hide1 (HSr.out.keep HK4.out)
      have HG4 := hide1 ((HG2.out.but HKr.out HGD.out).keep HK4.out)
      cases hbit : A1.testBit l with
      | true =>
        have HBT := hide1 hbit
        have HM2 := hide1 (HM.out.put HNL.out HOKp.out.2 HPJ.out (by rw [HLE.out]; exact hbit))
        clear hbit
        have q0 := keeps HS4.out.cells.1.1
        have q1 := keeps HS4.out.cells.1.2.1
        have q2 := keeps HPB.out.cells.1
        have hkr : Kept W4 W4 := Kept.refl W4
        go_region_held3 (fun w' => Kept W4 w') (first | assumption | exact Kept.refl _ | exact gtrans (by assumption) (by assumption))
          ((go_at_call 48; refine (sHas_is A1 l HL.out _).mono ?_; rintro e w5 ⟨rfl, hk5⟩; rw [HBT.out]; have k5 : Kept W4 w5 := gtrans (by assumption) hk5))
        have HK5 := hide1 k5
        clear q0 q1 q2 hkr hk5 k5
        have HS5 := hide1 (HS4.out.keep HK5.out)
        have HKT := hide1 (gtrans HKw.out (gtrans HK4.out HK5.out))
        obtain ⟨s0, s1, s2, s3⟩ := (HG4.out.keep HK5.out).facts
        obtain ⟨p0, p1⟩ := (HPB.out.keep HK5.out).cells
        go_wp2_with (go_at_call 104; refine (sTake_is d A1 B1 nl al cl x1 (.slice (some ⟨cb, o2, none⟩) np cp) sv ar nr cr p.2 w0 _ HNL.out HNR.out HRT.out HKT.out HD.out HS5.out HOKp.out.2).mono ?_; rintro e w7 ⟨rfl, hs7, hk7⟩; have HS7 := hide1 hs7; have HK7 := hide1 ((gtrans HK4.out HK5.out).but d |>.trans hk7); clear hs7 hk7)
        go_roundw
        case rel => exact ⟨j + 1, _, _, by go_num, by rw [HPS.out]; omega, HM2, HS7, HKr.out.trans HK7.out⟩
        case measure => simp [intOf]; omega
      | false =>
        have HBT := hide1 hbit
        have HM2 := hide1 (HM.out.skip HPJ.out (by rw [HLE.out]; exact hbit))
        clear hbit
        have q0 := keeps HS4.out.cells.1.1
        have q1 := keeps HS4.out.cells.1.2.1
        have q2 := keeps HPB.out.cells.1
        have hkr : Kept W4 W4 := Kept.refl W4
        go_region_held3 (fun w' => Kept W4 w') (first | assumption | exact Kept.refl _ | exact gtrans (by assumption) (by assumption))
          ((go_at_call 48; refine (sHas_is A1 l HL.out _).mono ?_; rintro e w5 ⟨rfl, hk5⟩; rw [HBT.out]; have k5 : Kept W4 w5 := gtrans (by assumption) hk5))
        have HK5 := hide1 k5
        clear q0 q1 q2 hkr hk5 k5
        go_wp2_with fail
        go_roundw
        case rel => exact ⟨j + 1, A1, B1, by go_num, by rw [HPS.out]; omega, HM2, HSr.out.keep (gtrans HK4.out HK5.out), HKr.out.trans ((gtrans HK4.out HK5.out).but d)⟩
        case measure => simp [intOf]; omega
    · have hjn : j = ps.length := by have := HPS.out; omega
      have HM2 : Hid (RcS ps nl st A B A1 B1 ps.length 0) := hjn ▸ HM
      have HSO := hide1 (HO.out.but HKr.out HOD.out)
      obtain ⟨⟨a0, a1, a2, a3⟩, _⟩ := HSr.out.cells
      obtain ⟨⟨b0, b1, b2, b3⟩, _⟩ := HSO.out.cells
      have hne := neq_reach (HM2.out.step.bound HA8.out) (HM2.out.bound HB8.out) HA8.out HB8.out
      go_upto_region 8 with fail
      go_quiet (fail)
      go_wp2_with fail
      go_ret
      exact ⟨A1, B1, HM2.out, (by show Ending.returned (.bool (!(A1 == A) || !(B1 == B))) = _; rw [Bool.not_and]), HSr.out, ((HK1.out.but d).trans HKr.out).trans ((drewN_kept _ _).but d)⟩

end Ex
end Go.Proofs.YtggodknnfpegmaaDoor
