import Derived.Test.YtlgojnodhbmlkaaGreatDoorMExLyA
import Derived.Test.YtlgojnodhbmlkaaGreatDoorMExRdC
import Derived.Lib.SlBytesConst
namespace Go.Proofs.YtlgojnodhbmlkaaGreatDoor
open Go.RowKit
attribute [local go_sem] Oper.semAt_some
namespace Ex

theorem BytesIn.keepS {S S' : Nat → Prop} {w w' : World} {v : Value} {bs : List Int} (h : BytesIn S w v bs) (hk : Kept w w') (hS : ∀ c, S c → S' c) : BytesIn S' w' v bs := by
  obtain ⟨a, cap, h1, h2, h3, h4⟩ := h
  refine ⟨a, cap, h1, h2, h3, ?_⟩
  rcases h4 with h4 | ⟨c, o, h5, h6, h7⟩
  · exact .inl h4
  · exact .inr ⟨c, o, h5, hS c h6, fun i x hi => grown_cell hk (h7 i x hi)⟩
set_option linter.unusedSimpArgs false in
set_option maxRecDepth 100000 in
set_option maxHeartbeats 4000000 in
/-- run of a good pattern over at most so many bytes. -/
theorem run_g (n : Nat) (p : PatN (n + 1)) (hch : checkP p = 0) (r : Pat) (hr : ThinC n p r) (M : Nat → St → Nat × St) (hok : LayC r.1 r.2 M) (first : Nat) (st : St) (hlay : M 4096 ([], []) = (first, st)) (hts : st.1 ≠ [] ∨ st.1 = [] ∧ st.2 = []) (hfo : ForksOk st.2 ∧ st.1.length ≤ 4096 ∧ ∀ t ∈ st.1, PlaceOk st.2.length t.2.2) (hf2 : st.2.length ≤ 300000) (hfirst : PlaceOk st.2.length first) (hno : NetOk st.1 st.2 first)
    (S : Nat → Prop) (vk : Value) (w : World) (hk : KidsAt S w n (kids p) vk) (hS : ∀ d, S d → d < w.heap.size) (hT : TabAt w) (b : Option Addr) (cap : Nat) (bs : List Int) (hb : BytesIn (fun c => c < w.heap.size) w (.slice b bs.length cap) bs) (hbl : bs.length ≤ 262144) :
    Calls Tryz.prog 17 #[valOf p vk, .slice b bs.length cap] w fun e w' => e = .returned (.tuple #[.int .i64 (runM st.1 st.2 first bs).1, .int .i64 (runM st.1 st.2 first bs).2, .int .i64 0]) ∧ Kept w w' := by
  have HCH := hide1 hch
  have HR := hide1 hr
  have HOK := hide1 hok
  have HLY := hide1 hlay
  have HTS := hide1 hts
  have HFO := hide1 hfo
  have HFI := hide1 hfirst
  have HNO := hide1 hno
  have HK := hide1 hk
  have HS := hide1 hS
  have HT := hide1 hT
  have HB := hide1 hb
  have hbI : (bs.length : Int) ≤ 262144 := by omega
  obtain ⟨ak, ck, rfl⟩ := hk.form
  obtain ⟨x1, hx1⟩ : ∃ x, (runM st.1 st.2 first bs).1 = x := ⟨_, rfl⟩
  obtain ⟨x2, hx2⟩ : ∃ x, (runM st.1 st.2 first bs).2 = x := ⟨_, rfl⟩
  rw [valOf_eq, hx1, hx2]
  have HX1 := hide1 hx1
  have HX2 := hide1 hx2
  clear hch hr hok hlay hts hfo hfirst hno hk hS hT hb hx1 hx2
  go_enter Tryz.func17, Tryz.ntmps17
  go_wp2_with fail
  generalize hW1 : w.alloc _ = W1
  have HK1 : Hid (Kept w W1) := by rw [← hW1]; exact (Kept.refl w).alloc _ _
  have hbx : BoxAt W1 w.heap.size (.int .i64 (kind p)) (.int .i64 (from_ p)) (.int .i64 (to_ p)) (.int .i64 (min_ p)) (.int .i64 (max_ p)) (.slice ak (kids p).length ck) := by rw [← hW1]; exact BoxAt.new w _ _ _ _ _ _
  have HBX := hide1 hbx
  clear hW1 hbx
  refine (Check_is S n p _ W1 (HK.out.kept HK1.out) (fun d hd => Nat.lt_of_lt_of_le (HS.out d hd) HK1.out.2.2.2.1)).mono ?_
  rintro e w2 ⟨rfl, hk2⟩
  rw [HCH.out]
  obtain ⟨⟨q0, q1, q2, q3, q4, q5⟩, zz⟩ := (HBX.out.keep hk2).facts
  have HK2 : Hid (Kept w w2) := by
    have a := HK1.out
    exact ⟨hk2.1.trans a.1, hk2.2.1.trans a.2.1, hk2.2.2.1.trans a.2.2.1, Nat.le_trans a.2.2.2.1 hk2.2.2.2.1, fun k hk => (hk2.2.2.2.2 k (Nat.lt_of_lt_of_le hk a.2.2.2.1)).trans (a.2.2.2.2 k hk)⟩
  clear hk2 zz
  have hd : ¬ (262144 : Int) < (bs.length : Int) := by omega
  go_wp2_with fail
  refine (newNet_g n p r HR.out M HOK.out first st HLY.out (Nat.le_trans HFO.out.2.1 (by omega)) hf2 S _ w2 (HK.out.kept HK2.out) (fun d hd => Nat.lt_of_lt_of_le (HS.out d hd) HK2.out.2.2.2.1)).mono ?_
  rintro e w3 ⟨hnn, hk3⟩
  obtain ⟨nb, tb, fb, rfl, hnr, htb⟩ : ∃ nb tb fb, e = .returned (.pointer (some ⟨nb, 0, none⟩)) ∧ NetRun (fun _ => False) w3 nb tb fb first st.1 st.2 ∧ w2.heap.size ≤ tb := by
    rcases HTS.out with ht | ⟨h1, h2⟩
    · exact hnn.net ht HFO.out
    · rw [h1, h2] at hnn ⊢
      exact hnn.net0
  have HNR := hide1 hnr
  have HK3 : Hid (Kept w w3) := by
    have a := HK2.out
    exact ⟨hk3.1.trans a.1, hk3.2.1.trans a.2.1, hk3.2.2.1.trans a.2.2.1, Nat.le_trans a.2.2.2.1 hk3.2.2.2.1, fun k hk => (hk3.2.2.2.2 k (Nat.lt_of_lt_of_le hk a.2.2.2.1)).trans (a.2.2.2.2 k hk)⟩
  have HTB : Hid (w.heap.size ≤ tb) := Nat.le_trans HK2.out.2.2.2.1 htb
  clear hnn hk3 hnr htb
  go_wp2_with fail
  refine (net_run (fun _ => False) nb tb fb first st.1 st.2 _ bs w3 HNR.out (HT.out.keep HK3.out) (fun e => by have h1 := HT.out.lt; have h2 := HTB.out; omega) HFI.out HNO.out (HB.out.keepS HK3.out (fun c hc e => by have h2 := HTB.out; omega))).mono ?_
  rintro e w4 ⟨rfl, hk4⟩
  rw [HX1.out, HX2.out]
  have HK4 := hide1 hk4
  clear hk4
  go_wp2_with fail
  go_ret3
  have a := HK3.out
  have b := HK4.out
  exact ⟨rfl, b.1.trans a.1, b.2.1.trans a.2.1, b.2.2.1.trans a.2.2.1, Nat.le_trans a.2.2.2.1 b.2.2.2.1, fun k hk => (b.2.2.2.2 k (Nat.lt_of_lt_of_le hk a.2.2.2.1) (by have := HTB.out; omega)).trans (a.2.2.2.2 k hk)⟩

theorem run_good (n : Nat) (p : PatN (n + 1)) (hch : checkP p = 0) (r : Pat) (hr : ThinC n p r) (hok : LayOk r.1 r.2) (first : Nat) (st : St) (hlay : layW r.1 r.2 4096 ([], []) = (first, st)) (hts : st.1 ≠ []) (hfo : ForksOk st.2 ∧ st.1.length ≤ 4096 ∧ ∀ t ∈ st.1, PlaceOk st.2.length t.2.2) (hf2 : st.2.length ≤ 300000) (hfirst : PlaceOk st.2.length first) (hno : NetOk st.1 st.2 first)
    (S : Nat → Prop) (vk : Value) (w : World) (hk : KidsAt S w n (kids p) vk) (hS : ∀ d, S d → d < w.heap.size) (hT : TabAt w) (b : Option Addr) (cap : Nat) (bs : List Int) (hb : BytesIn (fun c => c < w.heap.size) w (.slice b bs.length cap) bs) (hbl : bs.length ≤ 1000) :
    Calls Tryz.prog 17 #[valOf p vk, .slice b bs.length cap] w fun e w' => e = .returned (.tuple #[.int .i64 (runM st.1 st.2 first bs).1, .int .i64 (runM st.1 st.2 first bs).2, .int .i64 0]) ∧ Kept w w' :=
  run_g n p hch r hr _ (lay_is r.1 r.2 hok).1 first st hlay (.inl hts) hfo hf2 hfirst hno S vk w hk hS hT b cap bs hb (by omega)

end Ex
end Go.Proofs.YtlgojnodhbmlkaaGreatDoor
namespace Go.Proofs.YtlgojnodhbmlkaaGreatDoor
open Go.RowKit
attribute [local go_sem] Oper.semAt_some
namespace Ex

/-- run of known's pattern. -/
theorem run0 (S : Nat → Prop) (vk : Value) (w : World) (hk : KidsAt S w P0.1 (kids P0.2) vk) (hS : ∀ d, S d → d < w.heap.size) (hT : TabAt w) (b : Option Addr) (cap : Nat) (bs : List Int) (x1 x2 : Int) (hx : runM ts0 fs0 4099 bs = (x1, x2)) (hb : BytesIn (fun c => c < w.heap.size) w (.slice b bs.length cap) bs) (hbl : bs.length ≤ 1000) :
    Calls Tryz.prog 17 #[valOf P0.2 vk, .slice b bs.length cap] w fun e w' => e = .returned (.tuple #[.int .i64 x1, .int .i64 x2, .int .i64 0]) ∧ Kept w w' := by
  have := run_good P0.1 P0.2 check0 P0 (by have h := thin_is P0.1 P0.2 well0; rw [thin0] at h; exact h) ok0 4099 (ts0, fs0) lay0 (by decide) forks0 (by decide) (by unfold PlaceOk; decide) net0 S vk w hk hS hT b cap bs hb hbl
  rw [show runM (ts0, fs0).1 (ts0, fs0).2 4099 bs = (x1, x2) from hx] at this
  exact this

theorem run0_at (P : PatN (P0.1 + 1)) (hP : P0.2 = P) (S : Nat → Prop) (ak : Option Addr) (ck : Nat) (w : World) (hk : KidsAt S w P0.1 (kids P) (.slice ak (kids P).length ck)) (hS : ∀ d, S d → d < w.heap.size) (hT : TabAt w) (b : Option Addr) (cap : Nat) (bs : List Int) (n : Nat) (hn : bs.length = n) (x1 x2 : Int) (hx : runM ts0 fs0 4099 bs = (x1, x2)) (hb : BytesIn (fun c => c < w.heap.size) w (.slice b n cap) bs) (hbl : bs.length ≤ 1000) :
    Calls Tryz.prog 17 #[.agg #[.int .i64 (kind P), .int .i64 (from_ P), .int .i64 (to_ P), .int .i64 (min_ P), .int .i64 (max_ P), .slice ak (kids P).length ck], .slice b n cap] w fun e w' => e = .returned (.tuple #[.int .i64 x1, .int .i64 x2, .int .i64 0]) ∧ Kept w w' := by
  subst hP hn
  exact run0 S _ w hk hS hT b cap bs x1 x2 hx hb hbl
set_option linter.unusedSimpArgs false in
set_option maxRecDepth 100000 in
set_option maxHeartbeats 4000000 in
theorem Match0 (S : Nat → Prop) (vk : Value) (w : World) (hk : KidsAt S w P0.1 (kids P0.2) vk) (hS : ∀ d, S d → d < w.heap.size) (hT : TabAt w) (b : Option Addr) (cap : Nat) (hb : BytesIn (fun c => c < w.heap.size) w (.slice b 4 cap) [97, 98, 97, 98]) :
    Calls Tryz.prog 6 #[valOf P0.2 vk, .slice b 4 cap] w fun e w' => e = .returned (.tuple #[.bool true, .int .i64 0]) ∧ Kept w w' := by
  obtain ⟨P, hP⟩ : ∃ P, P0.2 = P := ⟨_, rfl⟩
  rw [hP] at hk
  have HK := hide1 hk
  have HS := hide1 hS
  have HT := hide1 hT
  have HB := hide1 hb
  obtain ⟨ak, ck, rfl⟩ := hk.form
  have HP := hide1 hP
  rw [hP, valOf_eq]
  clear hk hS hT hb hP
  go_enter Tryz.func6, Tryz.ntmps6
  go_wp2_with fail
  generalize hW1 : w.alloc _ = W1
  have HK1 : Hid (Kept w W1) := by rw [← hW1]; exact (Kept.refl w).alloc _ _
  clear hW1
  refine (run0_at P HP.out S ak ck W1 (HK.out.kept HK1.out) (fun d hd => Nat.lt_of_lt_of_le (HS.out d hd) HK1.out.2.2.2.1) (HT.out.keep HK1.out) b cap [97, 98, 97, 98] 4 rfl 4 4 run1 (HB.out.keepS HK1.out (fun c hc => Nat.lt_of_lt_of_le hc HK1.out.2.2.2.1)) (by decide)).mono ?_
  rintro e w2 ⟨rfl, hk2⟩
  have HK2 := hide1 hk2
  clear hk2
  go_wp2_with fail
  go_ret2
  have a := HK1.out
  have b := HK2.out
  exact ⟨rfl, b.1.trans a.1, b.2.1.trans a.2.1, b.2.2.1.trans a.2.2.1, Nat.le_trans a.2.2.2.1 b.2.2.2.1, fun k hk => (b.2.2.2.2 k (Nat.lt_of_lt_of_le hk a.2.2.2.1)).trans (a.2.2.2.2 k hk)⟩

set_option linter.unusedSimpArgs false in
set_option maxRecDepth 100000 in
set_option maxHeartbeats 4000000 in
theorem Longest0 (S : Nat → Prop) (vk : Value) (w : World) (hk : KidsAt S w P0.1 (kids P0.2) vk) (hS : ∀ d, S d → d < w.heap.size) (hT : TabAt w) (b : Option Addr) (cap : Nat) (hb : BytesIn (fun c => c < w.heap.size) w (.slice b 4 cap) [99, 100, 101, 120]) :
    Calls Tryz.prog 7 #[valOf P0.2 vk, .slice b 4 cap] w fun e w' => e = .returned (.tuple #[.int .i64 3, .int .i64 0]) ∧ Kept w w' := by
  obtain ⟨P, hP⟩ : ∃ P, P0.2 = P := ⟨_, rfl⟩
  rw [hP] at hk
  have HK := hide1 hk
  have HS := hide1 hS
  have HT := hide1 hT
  have HB := hide1 hb
  obtain ⟨ak, ck, rfl⟩ := hk.form
  have HP := hide1 hP
  rw [hP, valOf_eq]
  clear hk hS hT hb hP
  go_enter Tryz.func7, Tryz.ntmps7
  go_wp2_with fail
  generalize hW1 : w.alloc _ = W1
  have HK1 : Hid (Kept w W1) := by rw [← hW1]; exact (Kept.refl w).alloc _ _
  clear hW1
  refine (run0_at P HP.out S ak ck W1 (HK.out.kept HK1.out) (fun d hd => Nat.lt_of_lt_of_le (HS.out d hd) HK1.out.2.2.2.1) (HT.out.keep HK1.out) b cap [99, 100, 101, 120] 4 rfl 3 3 run2 (HB.out.keepS HK1.out (fun c hc => Nat.lt_of_lt_of_le hc HK1.out.2.2.2.1)) (by decide)).mono ?_
  rintro e w2 ⟨rfl, hk2⟩
  have HK2 := hide1 hk2
  clear hk2
  go_wp2_with fail
  go_ret2
  have a := HK1.out
  have b := HK2.out
  exact ⟨rfl, b.1.trans a.1, b.2.1.trans a.2.1, b.2.2.1.trans a.2.2.1, Nat.le_trans a.2.2.2.1 b.2.2.2.1, fun k hk => (b.2.2.2.2 k (Nat.lt_of_lt_of_le hk a.2.2.2.1)).trans (a.2.2.2.2 k hk)⟩

end Ex
end Go.Proofs.YtlgojnodhbmlkaaGreatDoor
namespace Go.Proofs.YtlgojnodhbmlkaaGreatDoor
open Go.RowKit
attribute [local go_sem] Oper.semAt_some
namespace Ex

theorem Kept.tr {a b c : World} (h : Kept a b) (k : Kept b c) : Kept a c := ⟨k.1.trans h.1, k.2.1.trans h.2.1, k.2.2.1.trans h.2.2.1, Nat.le_trans h.2.2.2.1 k.2.2.2.1, fun d hd => (k.2.2.2.2 d (Nat.lt_of_lt_of_le hd h.2.2.2.1)).trans (h.2.2.2.2 d hd)⟩
theorem kept_any (w : World) (o : Obj) : Kept w (w.alloc o) := ⟨rfl, rfl, rfl, by simp, fun _ hk => Below.heap_alloc _ _ _ hk⟩
theorem bytes4 (w : World) (a b c d : Int) : BytesIn (fun k => k < (w.alloc (.cells #[.int .u8 a, .int .u8 b, .int .u8 c, .int .u8 d] 5 (4, 5))).heap.size) (w.alloc (.cells #[.int .u8 a, .int .u8 b, .int .u8 c, .int .u8 d] 5 (4, 5))) (.slice (some ⟨w.heap.size, 0, none⟩) 4 4) [a, b, c, d] := by
  have h := World.alloc_heap_new w (.cells #[.int .u8 a, .int .u8 b, .int .u8 c, .int .u8 d] 5 (4, 5))
  refine ⟨_, 4, rfl, Nat.le_refl _, by simp, .inr ⟨w.heap.size, 0, rfl, by simp, fun i x hi => ?_⟩⟩
  generalize w.alloc (.cells #[.int .u8 a, .int .u8 b, .int .u8 c, .int .u8 d] 5 (4, 5)) = W at h ⊢
  have hi4 : i < 4 := (List.getElem?_eq_some_iff.1 hi).1
  match i, hi4 with
  | 0, _ => simp at hi; subst hi; simp [World.cell?, h]
  | 1, _ => simp at hi; subst hi; simp [World.cell?, h]
  | 2, _ => simp at hi; subst hi; simp [World.cell?, h]
  | 3, _ => simp at hi; subst hi; simp [World.cell?, h]
theorem Print0_at (P : PatN (P0.1 + 1)) (hP : P0.2 = P) (S : Nat → Prop) (ak : Option Addr) (ck : Nat) (w : World) (hk : KidsAt S w P0.1 (kids P) (.slice ak (kids P).length ck)) (hS : ∀ d, S d → d < w.heap.size) :
    Calls Tryz.prog 24 #[.agg #[.int .i64 (kind P), .int .i64 (from_ P), .int .i64 (to_ P), .int .i64 (min_ P), .int .i64 (max_ P), .slice ak (kids P).length ck]] w fun e w' => e = .returned (.tuple #[.string ⟨#[40, 97, 98, 41, 42, 124, 91, 99, 45, 101, 93, 123, 50, 44, 125]⟩, .int .i64 0]) ∧ Kept w w' := by
  subst hP
  exact Print0 S _ w ⟨_, rfl, hk⟩ hS
theorem Match0_at (P : PatN (P0.1 + 1)) (hP : P0.2 = P) (S : Nat → Prop) (ak : Option Addr) (ck : Nat) (w : World) (hk : KidsAt S w P0.1 (kids P) (.slice ak (kids P).length ck)) (hS : ∀ d, S d → d < w.heap.size) (hT : TabAt w) (b : Option Addr) (cap : Nat) (hb : BytesIn (fun c => c < w.heap.size) w (.slice b 4 cap) [97, 98, 97, 98]) :
    Calls Tryz.prog 6 #[.agg #[.int .i64 (kind P), .int .i64 (from_ P), .int .i64 (to_ P), .int .i64 (min_ P), .int .i64 (max_ P), .slice ak (kids P).length ck], .slice b 4 cap] w fun e w' => e = .returned (.tuple #[.bool true, .int .i64 0]) ∧ Kept w w' := by
  subst hP
  exact Match0 S _ w hk hS hT b cap hb
theorem Longest0_at (P : PatN (P0.1 + 1)) (hP : P0.2 = P) (S : Nat → Prop) (ak : Option Addr) (ck : Nat) (w : World) (hk : KidsAt S w P0.1 (kids P) (.slice ak (kids P).length ck)) (hS : ∀ d, S d → d < w.heap.size) (hT : TabAt w) (b : Option Addr) (cap : Nat) (hb : BytesIn (fun c => c < w.heap.size) w (.slice b 4 cap) [99, 100, 101, 120]) :
    Calls Tryz.prog 7 #[.agg #[.int .i64 (kind P), .int .i64 (from_ P), .int .i64 (to_ P), .int .i64 (min_ P), .int .i64 (max_ P), .slice ak (kids P).length ck], .slice b 4 cap] w fun e w' => e = .returned (.tuple #[.int .i64 3, .int .i64 0]) ∧ Kept w w' := by
  subst hP
  exact Longest0 S _ w hk hS hT b cap hb

set_option linter.unusedSimpArgs false in
set_option maxRecDepth 100000 in
set_option maxHeartbeats 4000000 in
theorem known_is (w : World) (hT : TabAt w) : Calls Tryz.prog 14 #[] w fun e w' => e = .returned (.bool true) ∧ Kept w w' := by
  have HT := hide1 hT
  clear hT
  have kc := fun (w : World) (C : Array Value) (n c : Nat) => Lib.run_convert_bytes_const (P := Tryz.prog) w 27 5 C n c Tryz.underlying27 Tryz.underlying5
  go_enter Tryz.func14, Tryz.ntmps14
  go_wp2_with fail
  refine (Parse0 w).mono ?_
  rintro e w1 ⟨h1, hk1⟩
  obtain ⟨v, rfl, vk, rfl, hkv⟩ := h1.out
  clear h1
  obtain ⟨P, hP⟩ : ∃ P, P0.2 = P := ⟨_, rfl⟩
  rw [hP] at hkv ⊢
  have hkt := hkv.tight
  obtain ⟨ak, ck, rfl⟩ := hkv.form
  rw [valOf_eq]
  have HP := hide1 hP
  have HKT := hide1 hkt
  have HK1 := hide1 hk1
  clear hP hkt hkv hk1
  go_wp2_with fail
  obtain ⟨W3, hW3⟩ : ∃ W3, (w1.alloc (Obj.cells #[Value.int IntKind.i64 (kind P), Value.int IntKind.i64 (from_ P), Value.int IntKind.i64 (to_ P), Value.int IntKind.i64 (min_ P), Value.int IntKind.i64 (max_ P), Value.slice ak (kids P).length ck] 24)).alloc (Obj.cells #[Value.int IntKind.i64 0, Value.int IntKind.i64 0, Value.string ⟨#[]⟩] 52) = W3 := ⟨_, rfl⟩
  have HKA : Hid (Kept (w1.alloc (Obj.cells #[Value.int IntKind.i64 (kind P), Value.int IntKind.i64 (from_ P), Value.int IntKind.i64 (to_ P), Value.int IntKind.i64 (min_ P), Value.int IntKind.i64 (max_ P), Value.slice ak (kids P).length ck] 24)) W3) := by rw [← hW3]; exact (Kept.refl _).alloc _ _
  have HK3 : Hid (Kept w1 W3) := by rw [← hW3]; exact ((Kept.refl w1).alloc _ _).alloc _ _
  have HBX : Hid (BoxAt W3 w1.heap.size (.int .i64 (kind P)) (.int .i64 (from_ P)) (.int .i64 (to_ P)) (.int .i64 (min_ P)) (.int .i64 (max_ P)) (.slice ak (kids P).length ck)) := (BoxAt.new w1 _ _ _ _ _ _).keep HKA.out
  rw [hW3]
  clear hW3 HKA
  refine (Print0_at P HP.out _ ak ck W3 (HKT.out.kept HK3.out) (fun d hd => Nat.lt_of_lt_of_le hd.2 HK3.out.2.2.2.1)).mono ?_
  rintro e w2 ⟨rfl, hk2⟩
  have HK2 := hide1 hk2
  have HBY := hide1 (HBX.out.keep hk2)
  obtain ⟨⟨q0, q1, q2, q3, q4, q5⟩, zz⟩ := HBY.out.facts
  clear hk2 zz
  go_wp2_with fail
  have HKM : Hid (Kept w1 w2) := Kept.tr HK3.out HK2.out
  have HBM := hide1 (bytes4 w2 97 98 97 98)
  have HKN := hide1 (kept_any w2 (.cells #[.int .u8 97, .int .u8 98, .int .u8 97, .int .u8 98] 5 (4, 5)))
  generalize w2.alloc (.cells #[.int .u8 97, .int .u8 98, .int .u8 97, .int .u8 98] 5 (4, 5)) = W4 at HBM HKN ⊢
  have HK4 : Hid (Kept w1 W4) := Kept.tr HKM.out HKN.out
  refine (Match0_at P HP.out _ ak ck W4 (HKT.out.kept HK4.out) (fun d hd => Nat.lt_of_lt_of_le hd.2 HK4.out.2.2.2.1) (HT.out.keep (Kept.tr HK1.out HK4.out)) _ _ HBM.out).mono ?_
  rintro e w5 ⟨rfl, hk5⟩
  have HK5 : Hid (Kept w1 w5) := Kept.tr HK4.out hk5
  have HBZ := hide1 (HBY.out.keep (Kept.tr HKN.out hk5))
  obtain ⟨⟨s0, s1, s2, s3, s4, s5⟩, zz⟩ := HBZ.out.facts
  clear hk5 zz
  go_wp2_with fail
  have HBL := hide1 (bytes4 w5 99 100 101 120)
  have HKL := hide1 (kept_any w5 (.cells #[.int .u8 99, .int .u8 100, .int .u8 101, .int .u8 120] 5 (4, 5)))
  generalize w5.alloc (.cells #[.int .u8 99, .int .u8 100, .int .u8 101, .int .u8 120] 5 (4, 5)) = W6 at HBL HKL ⊢
  have HK6 : Hid (Kept w1 W6) := Kept.tr HK5.out HKL.out
  refine (Longest0_at P HP.out _ ak ck W6 (HKT.out.kept HK6.out) (fun d hd => Nat.lt_of_lt_of_le hd.2 HK6.out.2.2.2.1) (HT.out.keep (Kept.tr HK1.out HK6.out)) _ _ HBL.out).mono ?_
  rintro e w7 ⟨rfl, hk7⟩
  have HK7 : Hid (Kept w w7) := Kept.tr HK1.out (Kept.tr HK6.out hk7)
  clear hk7
  go_wp2_with fail
  go_ret
  exact ⟨rfl, HK7.out⟩

end Ex
end Go.Proofs.YtlgojnodhbmlkaaGreatDoor
