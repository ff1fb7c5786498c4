import Derived.Test.YtfajoknacfjedaaGreatDoorMExLy9
import Derived.Test.YtfajoknacfjedaaGreatDoorMExStB
import Derived.Test.YtfajoknacfjedaaGreatDoorMExX5
import Derived.Test.YtfajoknacfjedaaGreatDoorMExRdC
import Derived.Test.YtfajoknacfjedaaGreatDoorMExLy7
import Derived.Deep.RegionHeld3
import Derived.Deep.Cut
namespace Go.Proofs.YtfajoknacfjedaaGreatDoor
open Go.RowKit
namespace Ex

theorem takerC_at : ∀ (ts : List (Int × Int × Nat)) (i : Nat) (t : Int × Int × Nat), ts[i]? = some t → (takerC ts)[i * 4]? = some (.int .u8 t.1) ∧ (takerC ts)[i * 4 + 1]? = some (.int .u8 t.2.1) ∧ (takerC ts)[i * 4 + 2]? = some (.int .i64 (t.2.2 : Int)) ∧ (takerC ts)[i * 4 + 3]? = some (.slice none 0 0)
  | [], i, c, h => by simp at h
  | d :: l, 0, c, h => by
    simp only [List.getElem?_cons_zero, Option.some.injEq] at h
    subst h
    exact ⟨rfl, rfl, rfl, rfl⟩
  | d :: l, i + 1, c, h => by
    rw [List.getElem?_cons_succ] at h
    have := takerC_at l i c h
    have e : takerC (d :: l) = .int .u8 d.1 :: .int .u8 d.2.1 :: .int .i64 (d.2.2 : Int) :: .slice none 0 0 :: takerC l := rfl
    rw [e, show (i + 1) * 4 = i * 4 + 4 by omega, show i * 4 + 4 + 1 = i * 4 + 1 + 4 by omega, show i * 4 + 4 + 2 = i * 4 + 2 + 4 by omega, show i * 4 + 4 + 3 = i * 4 + 3 + 4 by omega]
    simp only [List.getElem?_cons_succ]
    exact this
/-- A new net may run. -/
theorem NetNew.net {w w' : World} {e : Ending} {first : Nat} {ts : List (Int × Int × Nat)} {fs : List (Nat × Nat)} (h : NetNew w w' e first ts fs) (hts : ts ≠ []) (hok : ForksOk fs ∧ ts.length ≤ 4096 ∧ ∀ t ∈ ts, PlaceOk fs.length t.2.2) :
    ∃ nb tb fb, e = .returned (.pointer (some ⟨nb, 0, none⟩)) ∧ NetRun (fun _ => False) w' nb tb fb first ts fs ∧ w.heap.size ≤ tb := by
  obtain ⟨nb, vt, vf, rfl, h0, h1, h2, h3, h4, h5⟩ := h
  obtain ⟨⟨c0, c1, c2⟩, _⟩ := net_cells h1
  rcases h2.2 with ⟨_, hz⟩ | ⟨tb, capt, curt, rfl, _, hgt, hct, hmt, hst, hxt⟩
  · exact absurd (List.length_eq_zero_iff.1 hz) hts
  have ht4 := h4 tb rfl
  have cellsT : ∀ (i : Nat) (t : Int × Int × Nat), ts[i]? = some t → w'.cell? ⟨tb, i * 4, none⟩ = some (.int .u8 t.1) ∧ w'.cell? ⟨tb, i * 4 + 1, none⟩ = some (.int .u8 t.2.1) ∧ w'.cell? ⟨tb, i * 4 + 2, none⟩ = some (.int .i64 (t.2.2 : Int)) ∧ w'.frozen? ⟨tb, i * 4 + 3, none⟩ = false ∧ ∃ vb, w'.cell? ⟨tb, i * 4 + 3, none⟩ = some vb ∧ BehindAt (fun _ => False) w' fs t.2.2 vb := by
    intro i t hi
    obtain ⟨t0, t1, t2, t3⟩ := takerC_at ts i t hi
    exact ⟨cells_row hgt hxt t0, cells_row hgt hxt t1, cells_row hgt hxt t2, by simp [World.frozen?, hgt], _, cells_row hgt hxt t3, .inl rfl⟩
  rcases h3.2 with ⟨rfl, hz⟩ | ⟨fb, capf, curf, rfl, _, hgf, hcf, hmf, hsf, hxf⟩
  · have hf : fs = [] := List.length_eq_zero_iff.1 hz
    subst hf
    exact ⟨nb, tb, 0, rfl, ⟨⟨none, 0, c2, Nat.le_refl _, .inl rfl⟩, c0, ⟨Ne.symm ht4.2, fun h => h, fun d hd => hd.elim⟩, .inl rfl, (Array.getElem?_eq_some_iff.1 hgt).1, ⟨some ⟨tb, 0, none⟩, capt, c1, hct, .inr rfl⟩, hok, cellsT⟩, ht4.1⟩
  · have hf5 := h5 fb rfl
    have hne : fb ≠ tb := fun e => hf5.2.2 (by rw [e]; rfl)
    refine ⟨nb, tb, fb, rfl, ⟨⟨some ⟨fb, 0, none⟩, capf, c2, hcf, .inr ⟨rfl, fun i f hi => ?_⟩⟩, c0, ⟨Ne.symm ht4.2, fun h => h, fun d hd => hd.elim⟩, .inr hne, (Array.getElem?_eq_some_iff.1 hgt).1, ⟨some ⟨tb, 0, none⟩, capt, c1, hct, .inr rfl⟩, hok, cellsT⟩, ht4.1⟩
    obtain ⟨f0, f1⟩ := forkC_at fs i f hi
    exact ⟨cells_row hgf hxf f0, cells_row hgf hxf f1⟩

/-- A new net of nothing may run. -/
theorem NetNew.net0 {w w' : World} {e : Ending} {first : Nat} (h : NetNew w w' e first [] []) :
    ∃ nb tb fb, e = .returned (.pointer (some ⟨nb, 0, none⟩)) ∧ NetRun (fun _ => False) w' nb tb fb first [] [] ∧ w.heap.size ≤ tb := by
  obtain ⟨nb, vt, vf, rfl, h0, h1, h2, h3, h4, h5⟩ := h
  obtain ⟨⟨c0, c1, c2⟩, _⟩ := net_cells h1
  have hlt := (Array.getElem?_eq_some_iff.1 h1).1
  have hok : ForksOk [] ∧ ([] : List (Int × Int × Nat)).length ≤ 4096 ∧ ∀ t ∈ ([] : List (Int × Int × Nat)), PlaceOk ([] : List (Nat × Nat)).length t.2.2 := ⟨⟨by simp, fun f hf => by cases hf⟩, by simp, fun t ht => by cases ht⟩
  have ft : ∃ a c, vt = .slice a 0 c := by
    rcases h2.2 with ⟨e, _⟩ | ⟨g, c, cur, e, _⟩
    · exact ⟨_, _, e⟩
    · exact ⟨_, _, e⟩
  have ff : ∃ a c, vf = .slice a 0 c := by
    rcases h3.2 with ⟨e, _⟩ | ⟨g, c, cur, e, _⟩
    · exact ⟨_, _, e⟩
    · exact ⟨_, _, e⟩
  obtain ⟨at_, ct, rfl⟩ := ft
  obtain ⟨af, cf, rfl⟩ := ff
  exact ⟨nb, w.heap.size, 0, rfl, ⟨⟨af, cf, c2, Nat.zero_le _, .inl rfl⟩, c0, ⟨by omega, fun h => h, fun d hd => hd.elim⟩, .inl rfl, by omega, ⟨at_, ct, c1, Nat.zero_le _, .inl rfl⟩, hok, fun i t hi => by simp at hi⟩, Nat.le_refl _⟩

end Ex
end Go.Proofs.YtfajoknacfjedaaGreatDoor
namespace Go.Proofs.YtfajoknacfjedaaGreatDoor
open Go.RowKit
namespace Ex

def okB : (n : Nat) → PatN (n + 1) → Bool
  | 0, q => kind q == 1
  | n + 1, q => (kind q == 1) || (kind q == 2 && decide (0 < (kids q).length) && (kids q).all (okB n)) || (kind q == 3 && decide (2 ≤ (kids q).length) && (kids q).all (okB n)) || (kind q == 4 && max_ q == -1 && decide (0 ≤ min_ q) && decide (min_ q ≤ 1000) && (kids q).length == 1 && (kids q).all (okB n))
theorem okB_ok : ∀ (n : Nat) (q : PatN (n + 1)), okB n q = true → LayOk n q
  | 0, q, h => by have h1 : (kind q == 1) = true := h; exact (beq_iff_eq.1 h1 : kind q = 1)
  | n + 1, q, h => by
    have ih := okB_ok n
    simp only [okB, Bool.and_eq_true, Bool.or_eq_true, beq_iff_eq, decide_eq_true_eq, List.all_eq_true] at h
    rcases h with ((h | h) | h) | h
    · exact .inl h
    · exact .inr (.inl ⟨h.1.1, List.length_pos_iff.1 h.1.2, fun r hr => ih r (h.2 r hr)⟩)
    · exact .inr (.inr (.inl ⟨h.1.1, h.1.2, fun r hr => ih r (h.2 r hr)⟩))
    · exact .inr (.inr (.inr ⟨h.1.1.1.1.1, h.1.1.1.1.2, h.1.1.1.2, h.1.1.2, h.1.2, fun r hr => ih r (h.2 r hr)⟩))
theorem ok0 : LayOk P0.1 P0.2 := okB_ok _ _ (by kernel_rfl)
/-- known's net. -/
def ts0 : List (Int × Int × Nat) := [(98, 98, 4097), (97, 97, 0), (99, 101, 4098), (99, 101, 2)]
def fs0 : List (Nat × Nat) := [(1, 4096), (2, 4096), (4097, 3)]
theorem places_pow (k n : Nat) (h : k = 4096 ∨ k < n) : PlacesOk (2 ^ k) n := fun p hp => by
  rw [Nat.testBit_two_pow] at hp
  have := of_decide_eq_true hp
  omega
theorem net0 : NetOk ts0 fs0 4099 := by
  have r1 : reachM fs0 4099 = 2 ^ 1 ||| 2 ^ 3 ||| 2 ^ 4096 := by kernel_rfl
  have r2 : reachM fs0 4097 = 2 ^ 1 ||| 2 ^ 4096 := by kernel_rfl
  have r3 : reachM fs0 0 = 2 ^ 0 := by kernel_rfl
  have r4 : reachM fs0 4098 = 2 ^ 2 ||| 2 ^ 4096 := by kernel_rfl
  have r5 : reachM fs0 2 = 2 ^ 2 := by kernel_rfl
  have hl : ts0.length = 4 := rfl
  refine ⟨by rw [r1, hl]; exact places_or (places_or (places_pow 1 4 (by omega)) (places_pow 3 4 (by omega))) (places_pow 4096 4 (by omega)), fun t ht => ?_⟩
  unfold ts0 at ht
  simp only [List.mem_cons, List.not_mem_nil, or_false] at ht
  rw [hl]
  rcases ht with rfl | rfl | rfl | rfl
  · show PlacesOk (reachM fs0 4097) 4
    rw [r2]; exact places_or (places_pow 1 4 (by omega)) (places_pow 4096 4 (by omega))
  · show PlacesOk (reachM fs0 0) 4
    rw [r3]; exact places_pow 0 4 (by omega)
  · show PlacesOk (reachM fs0 4098) 4
    rw [r4]; exact places_or (places_pow 2 4 (by omega)) (places_pow 4096 4 (by omega))
  · show PlacesOk (reachM fs0 2) 4
    rw [r5]; exact places_pow 2 4 (by omega)
end Ex
end Go.Proofs.YtfajoknacfjedaaGreatDoor
namespace Go.Proofs.YtfajoknacfjedaaGreatDoor
open Go.RowKit
attribute [local go_sem] Oper.semAt_some
namespace Ex

theorem BytesIn.keepS {S S' : Nat → Prop} {w w' : World} {v : Value} {bs : List Int} (h : BytesIn S w v bs) (hk : Kept w w') (hS : ∀ c, S c → S' c) : BytesIn S' w' v bs := by
  obtain ⟨a, cap, h1, h2, h3, h4⟩ := h
  refine ⟨a, cap, h1, h2, h3, ?_⟩
  rcases h4 with h4 | ⟨c, o, h5, h6, h7⟩
  · exact .inl h4
  · exact .inr ⟨c, o, h5, hS c h6, fun i x hi => grown_cell hk (h7 i x hi)⟩
set_option linter.unusedSimpArgs false in
set_option maxRecDepth 100000 in
set_option maxHeartbeats 4000000 in
/-- run of a good pattern over at most so many bytes. -/
theorem run_g (n : Nat) (p : PatN (n + 1)) (hch : checkP p = 0) (r : Pat) (hr : ThinC n p r) (M : Nat → St → Nat × St) (hok : LayC r.1 r.2 M) (first : Nat) (st : St) (hlay : M 4096 ([], []) = (first, st)) (hts : st.1 ≠ [] ∨ st.1 = [] ∧ st.2 = []) (hfo : ForksOk st.2 ∧ st.1.length ≤ 4096 ∧ ∀ t ∈ st.1, PlaceOk st.2.length t.2.2) (hf2 : st.2.length ≤ 300000) (hfirst : PlaceOk st.2.length first) (hno : NetOk st.1 st.2 first)
    (S : Nat → Prop) (vk : Value) (w : World) (hk : KidsAt S w n (kids p) vk) (hS : ∀ d, S d → d < w.heap.size) (hT : TabAt w) (b : Option Addr) (cap : Nat) (bs : List Int) (hb : BytesIn (fun c => c < w.heap.size) w (.slice b bs.length cap) bs) (hbl : bs.length ≤ 262144) :
    Calls Tryz.prog 32 #[valOf p vk, .slice b bs.length cap] w fun e w' => e = .returned (.tuple #[.int .i64 (runM st.1 st.2 first bs).1, .int .i64 (runM st.1 st.2 first bs).2, .int .i64 0]) ∧ Kept w w' := by
  have HCH := hide1 hch
  have HR := hide1 hr
  have HOK := hide1 hok
  have HLY := hide1 hlay
  have HTS := hide1 hts
  have HFO := hide1 hfo
  have HFI := hide1 hfirst
  have HNO := hide1 hno
  have HK := hide1 hk
  have HS := hide1 hS
  have HT := hide1 hT
  have HB := hide1 hb
  have hbI : (bs.length : Int) ≤ 262144 := by omega
  obtain ⟨ak, ck, rfl⟩ := hk.form
  obtain ⟨x1, hx1⟩ : ∃ x, (runM st.1 st.2 first bs).1 = x := ⟨_, rfl⟩
  obtain ⟨x2, hx2⟩ : ∃ x, (runM st.1 st.2 first bs).2 = x := ⟨_, rfl⟩
  rw [valOf_eq, hx1, hx2]
  have HX1 := hide1 hx1
  have HX2 := hide1 hx2
  clear hch hr hok hlay hts hfo hfirst hno hk hS hT hb hx1 hx2
  go_enter Tryz.func32, Tryz.ntmps32
  go_wp2_with fail
  generalize hW1 : w.alloc _ = W1
  have HK1 : Hid (Kept w W1) := by rw [← hW1]; exact (Kept.refl w).alloc _ _
  have hbx : BoxAt W1 w.heap.size (.int .i64 (kind p)) (.int .i64 (from_ p)) (.int .i64 (to_ p)) (.int .i64 (min_ p)) (.int .i64 (max_ p)) (.slice ak (kids p).length ck) := by rw [← hW1]; exact BoxAt.new w _ _ _ _ _ _
  have HBX := hide1 hbx
  clear hW1 hbx
  refine (Check_is S n p _ W1 (HK.out.kept HK1.out) (fun d hd => Nat.lt_of_lt_of_le (HS.out d hd) HK1.out.2.2.2.1)).mono ?_
  rintro e w2 ⟨rfl, hk2⟩
  rw [HCH.out]
  obtain ⟨⟨q0, q1, q2, q3, q4, q5⟩, zz⟩ := (HBX.out.keep hk2).facts
  have HK2 : Hid (Kept w w2) := by
    have a := HK1.out
    exact ⟨hk2.1.trans a.1, hk2.2.1.trans a.2.1, hk2.2.2.1.trans a.2.2.1, Nat.le_trans a.2.2.2.1 hk2.2.2.2.1, fun k hk => (hk2.2.2.2.2 k (Nat.lt_of_lt_of_le hk a.2.2.2.1)).trans (a.2.2.2.2 k hk)⟩
  clear hk2 zz
  have hd : ¬ (262144 : Int) < (bs.length : Int) := by omega
  go_wp2_with fail
  refine (newNet_g n p r HR.out M HOK.out first st HLY.out (Nat.le_trans HFO.out.2.1 (by omega)) hf2 S _ w2 (HK.out.kept HK2.out) (fun d hd => Nat.lt_of_lt_of_le (HS.out d hd) HK2.out.2.2.2.1)).mono ?_
  rintro e w3 ⟨hnn, hk3⟩
  obtain ⟨nb, tb, fb, rfl, hnr, htb⟩ : ∃ nb tb fb, e = .returned (.pointer (some ⟨nb, 0, none⟩)) ∧ NetRun (fun _ => False) w3 nb tb fb first st.1 st.2 ∧ w2.heap.size ≤ tb := by
    rcases HTS.out with ht | ⟨h1, h2⟩
    · exact hnn.net ht HFO.out
    · rw [h1, h2] at hnn ⊢
      exact hnn.net0
  have HNR := hide1 hnr
  have HK3 : Hid (Kept w w3) := by
    have a := HK2.out
    exact ⟨hk3.1.trans a.1, hk3.2.1.trans a.2.1, hk3.2.2.1.trans a.2.2.1, Nat.le_trans a.2.2.2.1 hk3.2.2.2.1, fun k hk => (hk3.2.2.2.2 k (Nat.lt_of_lt_of_le hk a.2.2.2.1)).trans (a.2.2.2.2 k hk)⟩
  have HTB : Hid (w.heap.size ≤ tb) := Nat.le_trans HK2.out.2.2.2.1 htb
  clear hnn hk3 hnr htb
  go_wp2_with fail
  refine (net_run (fun _ => False) nb tb fb first st.1 st.2 _ bs w3 HNR.out (HT.out.keep HK3.out) (fun e => by have h1 := HT.out.lt; have h2 := HTB.out; omega) HFI.out HNO.out (HB.out.keepS HK3.out (fun c hc e => by have h2 := HTB.out; omega))).mono ?_
  rintro e w4 ⟨rfl, hk4⟩
  rw [HX1.out, HX2.out]
  have HK4 := hide1 hk4
  clear hk4
  go_wp2_with fail
  go_ret3
  have a := HK3.out
  have b := HK4.out
  exact ⟨rfl, b.1.trans a.1, b.2.1.trans a.2.1, b.2.2.1.trans a.2.2.1, Nat.le_trans a.2.2.2.1 b.2.2.2.1, fun k hk => (b.2.2.2.2 k (Nat.lt_of_lt_of_le hk a.2.2.2.1) (by have := HTB.out; omega)).trans (a.2.2.2.2 k hk)⟩

end Ex
end Go.Proofs.YtfajoknacfjedaaGreatDoor
namespace Go.Proofs.YtfajoknacfjedaaGreatDoor
open Go.RowKit
attribute [local go_sem] Oper.semAt_some
namespace Ex

/-- Copies that may be left out, the last first. -/
def optL (L : Nat → St → Nat × St) (after : Nat) : Nat → Nat → St → Nat × St
  | 0, next, st => (next, st)
  | m + 1, next, st => optL L after m (4097 + (L next st).2.2.length) ((L next st).2.1, (L next st).2.2 ++ [((L next st).1, after)])
theorem opt_grows {L : Nat → St → Nat × St} (hG : GrowsL L) (after : Nat) : ∀ m, GrowsL (optL L after m)
  | 0, _, _ => ⟨Nat.le_refl _, Nat.le_refl _⟩
  | m + 1, next, st => by
    have h1 := hG next st
    have h2 := opt_grows hG after m (4097 + (L next st).2.2.length) ((L next st).2.1, (L next st).2.2 ++ [((L next st).1, after)])
    simp only [List.length_append, List.length_singleton] at h2
    unfold optL
    exact ⟨Nat.le_trans h1.1 h2.1, by omega⟩
/-- A repetition with a bound. -/
def boundL (L : Nat → St → Nat × St) (mn mx : Int) (next : Nat) (st : St) : Nat × St := copiesL L mn.toNat (optL L next (mx - mn).toNat next st).1 (optL L next (mx - mn).toNat next st).2
theorem bound_grows {L : Nat → St → Nat × St} (hG : GrowsL L) (mn mx : Int) : GrowsL (boundL L mn mx) := fun next st => by
  have h1 := opt_grows hG next (mx - mn).toNat next st
  have h2 := copies_grows hG mn.toNat (optL L next (mx - mn).toNat next st).1 (optL L next (mx - mn).toNat next st).2
  exact ⟨Nat.le_trans h1.1 h2.1, Nat.le_trans h1.2 h2.2⟩
/-- The loop of layTimes. -/
def OptR (X : Nat → Prop) (nb : Nat) (L : Nat → St → Nat × St) (count next : Nat) (st : St) (w W : World) (vn vi : Value) (wr : World) : Prop :=
  ∃ (j nx : Nat) (s : St), vi = .int .i64 (j : Int) ∧ vn = .int .i64 (nx : Int) ∧ j ≤ count ∧ optL L next count next st = optL L next (count - j) nx s ∧ NetL (fun d => X d ∨ d = w.heap.size) wr nb s.1 s.2 ∧ XKept (fun d => X d ∨ d = w.heap.size) W wr
set_option linter.unusedSimpArgs false in
set_option maxRecDepth 100000 in
set_option maxHeartbeats 1000000 in
theorem layBound_is (n : Nat) (p : PatN (n + 1 + 1)) (q : PatN (n + 1)) (hq : kids p = [q]) (mn mx : Int) (hm0 : 0 ≤ mn) (hm1 : mn ≤ mx) (hm2 : mx ≤ 1000) (L : Nat → St → Nat × St) (hL : LayC n q L) (hG : GrowsL L) (X : Nat → Prop) (nb next : Nat) (st : St) (vk : Value) (w : World) (h : NetL X w nb st.1 st.2) (hk : KidsAt X w (n + 1) (kids p) vk) (hX : ∀ d, X d → d < w.heap.size ∧ d ≠ nb)
    (h1 : (boundL L mn mx next st).2.1.length ≤ 300000) (h2 : (boundL L mn mx next st).2.2.length ≤ 300000) :
    Calls Tryz.prog 80 #[.pointer (some ⟨nb, 0, none⟩), .agg #[.int .i64 (kind p), .int .i64 (from_ p), .int .i64 (to_ p), .int .i64 mn, .int .i64 mx, vk], .int .i64 (next : Int)] w fun e w' => e = .returned (.int .i64 ((boundL L mn mx next st).1 : Int)) ∧ NetL X w' nb (boundL L mn mx next st).2.1 (boundL L mn mx next st).2.2 ∧ XKept X w w' := by
  obtain ⟨cnt, hcnt⟩ : ∃ x, mn.toNat = x := ⟨_, rfl⟩
  obtain ⟨opt, hopt⟩ : ∃ x, (mx - mn).toNat = x := ⟨_, rfl⟩
  obtain ⟨⟨nx0, s0⟩, hr0⟩ : ∃ r, optL L next opt next st = r := ⟨_, rfl⟩
  have hE : boundL L mn mx next st = copiesL L cnt nx0 s0 := by unfold boundL; rw [hcnt, hopt, hr0]
  rw [hE] at h1 h2 ⊢
  have hlg := copies_grows hG cnt nx0 s0
  have HL := hide1 hL
  have HGR := hide1 hG
  have HN := hide1 h
  have HX := hide1 hX
  have HKP := hide1 hk
  have HQ := hide1 hq
  have HR := hide1 hr0
  have hnb := h.lt
  have HLG := hide1 hlg
  have H1 := hide1 h1
  have H2 := hide1 h2
  have HCNT : Hid (mn = (cnt : Int) ∧ cnt ≤ 1000) := ⟨by omega, by omega⟩
  have hsub : mx - mn = (opt : Int) := by omega
  have hwr : IntKind.i64.wrap (mx - mn) = (opt : Int) := by rw [IntKind.wrap_i64]; omega
  have hop : (opt : Int) ≤ 1000 := by omega
  have em : (mx == -1) = false := by simp; omega
  rw [hq] at hk
  obtain ⟨a2, cap2, e2', hc2, _, h7⟩ := hk
  subst e2'
  rcases h7 with h7 | ⟨c, o, rfl, hXc, h7⟩
  · simp at h7
  obtain ⟨u, g0, g1, g2, g3, g4, g5, g6⟩ := h7 0 q rfl
  obtain ⟨a3, cap3, rfl⟩ := g6.form
  have HG6 := hide1 g6
  simp only [Nat.zero_mul, Nat.add_zero] at g0 g1 g2 g3 g4 g5
  have gc : (1 : Int) ≤ (cap2 : Int) := by have := hc2; simp at this; omega
  have HXC := hide1 hXc
  have HGC := hide1 (And.intro g0 (And.intro g1 (And.intro g2 (And.intro g3 (And.intro g4 g5)))))
  clear h7 g6 hX hL hc2 h hXc g0 g1 g2 g3 g4 g5 hG hlg h1 h2 hq hr0 hE hcnt hopt hm0 hm1 hm2
  go_enter Tryz.func80, Tryz.ntmps80
  go_wp2_with fail
  have HKW := hide1 ((Kept.refl w).alloc #[.int .i64 (kind p), .int .i64 (from_ p), .int .i64 (to_ p), .int .i64 mn, .int .i64 mx, .slice (some ⟨c, o, none⟩) 1 cap2] 24)
  have HBX := hide1 (BoxAt.new w (.int .i64 (kind p)) (.int .i64 (from_ p)) (.int .i64 (to_ p)) (.int .i64 mn) (.int .i64 mx) (.slice (some ⟨c, o, none⟩) 1 cap2))
  have HN0 := hide1 (HN.out.box #[.int .i64 (kind p), .int .i64 (from_ p), .int .i64 (to_ p), .int .i64 mn, .int .i64 mx, .slice (some ⟨c, o, none⟩) 1 cap2] 24)
  generalize hW : w.alloc (.cells #[.int .i64 (kind p), .int .i64 (from_ p), .int .i64 (to_ p), .int .i64 mn, .int .i64 mx, .slice (some ⟨c, o, none⟩) 1 cap2] 24) = W at HKW HBX HN0 ⊢
  have HWS : Hid (w.heap.size + 1 = W.heap.size) := by show _ = _; rw [← hW]; simp
  clear hW
  go_loopw [2, 32] (OptR X nb L opt next st w W) (fun _ vi _ => opt - (intOf vi).toNat)
  case atStart => exact ⟨0, next, st, rfl, rfl, Nat.zero_le _, rfl, HN0.out, ⟨rfl, rfl, rfl, Nat.le_refl _, fun _ _ => rfl⟩⟩
  case round =>
    obtain ⟨j, nx, s, rfl, rfl, hj, hM, hN, hkx⟩ := hrel
    have HM := hide1 hM
    have HN1 := hide1 hN
    have HKX := hide1 hkx
    have hbx := HBX.out.x hkx (.inr rfl)
    have HBR := hide1 hbx
    obtain ⟨⟨q0, q1, q2, q3, q4, q5⟩, zz⟩ := hbx.facts
    have hlw := hbx.lt
    have i0 := hkx.cell (.inl HXC.out) (grown_cell HKW.out HGC.out.1)
    have i1 := hkx.cell (.inl HXC.out) (grown_cell HKW.out HGC.out.2.1)
    have i2 := hkx.cell (.inl HXC.out) (grown_cell HKW.out HGC.out.2.2.1)
    have i3 := hkx.cell (.inl HXC.out) (grown_cell HKW.out HGC.out.2.2.2.1)
    have i4 := hkx.cell (.inl HXC.out) (grown_cell HKW.out HGC.out.2.2.2.2.1)
    have i5 := hkx.cell (.inl HXC.out) (grown_cell HKW.out HGC.out.2.2.2.2.2)
    have HKI7 : Hid (KidsAt (fun d => X d ∨ d = w.heap.size) wr n (kids q) (.slice a3 (kids q).length cap3)) := KidsAt.mono (w := w) (w' := wr) (S := X) (fun d o v hd hcc => HKX.out.cell (Or.inl hd) (grown_cell HKW.out hcc)) (fun d hd => Or.inl hd) _ _ _ HG6.out
    have hnw : nb < wr.heap.size := by have := HWS.out; have := hkx.2.2.2.1; omega
    have hsw : w.heap.size < wr.heap.size := hlw
    clear zz hbx hM hN hkx
    by_cases hlt : (j : Int) < (opt : Int)
    · have HLT : Hid (j < opt) := show j < opt by omega
      obtain ⟨⟨fx, fs⟩, hfx⟩ : ∃ z, L nx s = z := ⟨_, rfl⟩
      have HFX := hide1 hfx
      have HM2 : Hid (optL L next opt next st = optL L next (opt - (j + 1)) (4097 + fs.2.length) (fs.1, fs.2 ++ [(fx, next)])) := by
        show _ = _
        rw [HM.out, show opt - j = opt - (j + 1) + 1 by have := HLT.out; omega]
        rw [optL, hfx]
      have hb := opt_grows HGR.out next (opt - (j + 1)) (4097 + fs.2.length) (fs.1, fs.2 ++ [(fx, next)])
      rw [← HM2.out, HR.out] at hb
      have HB : Hid (fs.1.length ≤ 300000 ∧ fs.2.length ≤ 300000) := by
        have k1 := H1.out
        have k2 := H2.out
        have k3 := HLG.out
        simp only [List.length_append, List.length_singleton] at hb
        exact ⟨by omega, by omega⟩
      clear hb hfx
      go_wp2_with (first
        | (go_at_call 62; refine (LayC.at HL.out (fun d => X d ∨ d = w.heap.size) nb nx _ s _ _ rfl HN1.out HKI7.out (fun d hd => by rcases hd with hd | hd; (have := HX.out d hd; exact ⟨by omega, this.2⟩); exact ⟨by omega, by omega⟩) (by rw [HFX.out]; exact HB.out.1) (by rw [HFX.out]; exact HB.out.2)).mono ?_; rintro e w5 ⟨rfl, hn5, hk5⟩; rw [HFX.out] at hn5 ⊢; have HN5 := hide1 hn5; have HK5 := hide1 hk5; clear hn5 hk5)
        | (go_at_call 79; refine (fork_is (fun d => X d ∨ d = w.heap.size) nb fs.1 fs.2 fx next _ HN5.out (fun d hd => by have h2 := HK5.out.2.2.2.1; rcases hd with hd | hd; (have := HX.out d hd; exact ⟨by omega, this.2⟩); exact ⟨by omega, by omega⟩) HB.out.2).mono ?_; rintro e w6 ⟨rfl, hn6, hk6⟩; have HN6 := hide1 hn6; have HK6 := hide1 hk6; clear hn6 hk6))
      go_roundw
      case rel => exact ⟨j + 1, 4097 + fs.2.length, (fs.1, fs.2 ++ [(fx, next)]), by go_num, rfl, HLT.out, HM2.out, HN6.out, HKX.out.trans (HK5.out.trans HK6.out)⟩
      case measure => have := HLT.out; simp [intOf]; omega
    · have HE : Hid (nx = nx0 ∧ s = s0) := by
        have e := HM.out
        rw [HR.out, show opt - j = 0 by omega] at e
        exact ⟨(congrArg Prod.fst e).symm, (congrArg Prod.snd e).symm⟩
      obtain ⟨e1, e2⟩ := HE.out
      subst e1 e2
      go_upto_region 9 with fail
      go_region_held3 (fun w' => w'.cell? ⟨w.heap.size, 3, none⟩ = some (.int .i64 mn) ∧ w'.cell? ⟨w.heap.size, 5, none⟩ = some (.slice (some ⟨c, o, none⟩) 1 cap2) ∧ w'.cell? ⟨c, o, none⟩ = some (.int .i64 (kind q)) ∧ w'.cell? ⟨c, o + 1, none⟩ = some (.int .i64 (from_ q)) ∧ w'.cell? ⟨c, o + 2, none⟩ = some (.int .i64 (to_ q)) ∧ w'.cell? ⟨c, o + 3, none⟩ = some (.int .i64 (min_ q)) ∧ w'.cell? ⟨c, o + 4, none⟩ = some (.int .i64 (max_ q)) ∧ w'.cell? ⟨c, o + 5, none⟩ = some (.slice a3 (kids q).length cap3)) (first | exact ⟨by with_reducible assumption, by with_reducible assumption, by with_reducible assumption, by with_reducible assumption, by with_reducible assumption, by with_reducible assumption, by with_reducible assumption, by with_reducible assumption⟩ | go_keep)
        ((go_at_call 98; refine (layCopies_at n q L HL.out HGR.out (fun d => X d ∨ d = w.heap.size) nb cnt nx _ _ s _ _ HCNT.out.1 rfl (by exact HN1.out) (HKI7.out.kept (drew_kept _)) (fun d hd => by show d < wr.heap.size ∧ d ≠ nb; rcases hd with hd | hd; (have := HX.out d hd; exact ⟨by omega, this.2⟩); exact ⟨by omega, by omega⟩) H1.out H2.out (Nat.le_trans HCNT.out.2 (by omega))).mono ?_; rintro e w9 ⟨rfl, hn9, hk9⟩; have HN9 := hide1 hn9; have HK9 := hide1 hk9; have j3 := hk9.cell (.inr rfl) q3; have j5 := hk9.cell (.inr rfl) q5; have l0 := hk9.cell (.inl HXC.out) i0; have l1 := hk9.cell (.inl HXC.out) i1; have l2 := hk9.cell (.inl HXC.out) i2; have l3 := hk9.cell (.inl HXC.out) i3; have l4 := hk9.cell (.inl HXC.out) i4; have l5 := hk9.cell (.inl HXC.out) i5; clear hn9 hk9))
      go_wp2_with fail
      go_ret
      refine ⟨rfl, HN9.out.sub (fun d hd => .inl hd), ?_⟩
      exact (HKW.out.x (fun d hd => (HX.out d hd).1)).trans ((HKX.out.trans HK9.out).sub (fun d hd => .inl hd))
theorem layBound_mx (n : Nat) (p : PatN (n + 1 + 1)) (q : PatN (n + 1)) (hq : kids p = [q]) (kd mn mx : Int) (hkd : kind p = kd) (hm0 : 0 ≤ mn) (hm1 : mn ≤ mx) (hm2 : mx ≤ 1000) (L : Nat → St → Nat × St) (hL : LayC n q L) (hG : GrowsL L) (X : Nat → Prop) (nb next : Nat) (st : St) (nx : Nat) (s : St) (hr : boundL L mn mx next st = (nx, s)) (vk : Value) (w : World) (h : NetL X w nb st.1 st.2) (hk : KidsAt X w (n + 1) (kids p) vk) (hX : ∀ d, X d → d < w.heap.size ∧ d ≠ nb)
    (h1 : s.1.length ≤ 300000) (h2 : s.2.length ≤ 300000) :
    Calls Tryz.prog 80 #[.pointer (some ⟨nb, 0, none⟩), .agg #[.int .i64 kd, .int .i64 (from_ p), .int .i64 (to_ p), .int .i64 mn, .int .i64 mx, vk], .int .i64 (next : Int)] w fun e w' => e = .returned (.int .i64 (nx : Int)) ∧ NetL X w' nb s.1 s.2 ∧ XKept X w w' := by
  subst hkd
  have := layBound_is n p q hq mn mx hm0 hm1 hm2 L hL hG X nb next st vk w h hk hX (by rw [hr]; exact h1) (by rw [hr]; exact h2)
  rw [hr] at this
  exact this
set_option linter.unusedSimpArgs false in
set_option maxRecDepth 100000 in
set_option maxHeartbeats 4000000 in
theorem lay_bound (n : Nat) (p : PatN (n + 1 + 1)) (q : PatN (n + 1)) (hq : kids p = [q]) (hkd : kind p = 4) (hm0 : 0 ≤ min_ p) (hm1 : min_ p ≤ max_ p) (hm2 : max_ p ≤ 1000) (L : Nat → St → Nat × St) (hL : LayC n q L) (hG : GrowsL L) : LayC (n + 1) p (boundL L (min_ p) (max_ p)) := by
  intro X nb next st vk w h hk hX h1 h2
  obtain ⟨mn, hmn⟩ : ∃ x, min_ p = x := ⟨_, rfl⟩
  obtain ⟨mx, hmx⟩ : ∃ x, max_ p = x := ⟨_, rfl⟩
  rw [hmn] at hm0 hm1 h1 h2 ⊢
  rw [hmx] at hm1 hm2 h1 h2 ⊢
  obtain ⟨⟨nx, s⟩, hr⟩ : ∃ r, boundL L mn mx next st = r := ⟨_, rfl⟩
  rw [hr] at h1 h2 ⊢
  have HL := hide1 hL
  have HGR := hide1 hG
  have HN := hide1 h
  have HX := hide1 hX
  have HKP := hide1 hk
  have HQ := hide1 hq
  have HMX := hide1 hmx
  have HMN := hide1 hmn
  have HKD := hide1 hkd
  have HR := hide1 hr
  have hnb := h.lt
  have H1 := hide1 h1
  have H2 := hide1 h2
  have HM := hide1 (And.intro hm0 (And.intro hm1 hm2))
  obtain ⟨ak, ck, rfl⟩ := hk.form
  rw [valOf_eq, hmx, hmn, hkd]
  clear hX hL h hG h1 h2 hmx hq hmn hr hkd hk hm0 hm1 hm2
  go_enter Tryz.func62, Tryz.ntmps62
  go_wp2_with (go_at_call 80; refine (layBound_mx n p q HQ.out 4 mn mx HKD.out HM.out.1 HM.out.2.1 HM.out.2.2 L HL.out HGR.out X nb next st nx s HR.out (.slice ak (kids p).length ck) _ ((HN.out.keep ((((Kept.refl w).alloc _ _).alloc _ _).alloc _ _)).sub (fun d hd => Or.inl hd)) (HKP.out.kept ((((Kept.refl w).alloc _ _).alloc _ _).alloc _ _)) (fun d hd => by have := HX.out d hd; exact ⟨by simp; omega, this.2⟩) H1.out H2.out).mono ?_; rintro e w7 ⟨rfl, hn7, hk7⟩; have HN7 := hide1 hn7; have HK7 := hide1 hk7; clear hn7 hk7)
  go_ret
  exact ⟨rfl, HN7.out, (((((Kept.refl w).alloc _ _).alloc _ _).alloc _ _).x (fun d hd => (HX.out d hd).1)).trans HK7.out⟩

end Ex
end Go.Proofs.YtfajoknacfjedaaGreatDoor
